/- slices.Clone of ints; parts.members. -/
import Derived.Test.YtdcokkgdahbinaaVMiniD
import Derived.StillTailTactics
import Derived.Lib.SliceRun
set_option linter.unusedVariables false
set_option linter.unusedSimpArgs false
set_option maxRecDepth 100000
set_option maxHeartbeats 8000000
namespace Go.Proofs.Ytdcokkgdahbinaa
open Go Go.RowKit Go.Proofs
theorem cloneI_any {w : World} {v : Value} {n : Nat} {l : List Int} (h : ReadsI w v n l) (hn : n <= 1000000000) :
  Calls Try.prog 45 #[v] w fun e w' => ∃ u, e = .returned u /\ Own w' w.heap.size u n l /\ Below w.heap.size w w' := by
  obtain ⟨A, cap, rfl, h1, h2, hl⟩ := h.form
  cases A with
  | none =>
    have hc : cap = 0 := by
     obtain ⟨_, a', cap', e, _, _, h3, _⟩ := h
     simp only [Value.slice.injEq, true_and] at e
     obtain ⟨rfl, rfl⟩ := e
     exact h3 rfl
    obtain rfl : n = 0 := by omega
    have : l = [] := List.eq_nil_of_length_eq_zero hl
    subst this
    clear h
    subst hc
    have hnil := fun W => Lib.run_eql_slice_nil (P := Try.prog) W 22 3 none 0 0 0 0 Try.underlying22
    go_enter Try.func45, Try.ntmps45
    go_wp2_with fail
    go_ret
    exact ⟨_, rfl, Own.nil _ _, Below.refl _ _⟩
  | some a =>
    have HR := Lib.hid h
    clear h
    go_enter Try.func45, Try.ntmps45
    have hnil := fun W => Lib.run_eql_slice_nil (P := Try.prog) W 22 3 (some a) n cap 0 0 Try.underlying22
    have hsz : w.heap.size <= (w.alloc (.cells #[] 3)).heap.size := by simp
    go_wp2_with (at_builtin; refine wpList_concatI rfl (.tmp 5) (.tmp 6) rfl w.heap.size (sl w.heap.size 0 0) 0 [] (by rfl) (Own.none_ w) (.slice (some a) n cap) n l (by rfl) (HR.out.alloc _) (by omega) hsz ?_; intro v' w' q1 q2 q3 q4; have H1 := Lib.hid q1; have H2 := Lib.hid q2; clear q1 q2 q3 q4)
    go_ret
    have q1 := H1.out
    rw [Nat.zero_add, List.nil_append] at q1
    exact ⟨_, rfl, q1, (Below.refl w.heap.size w).alloc (Nat.le_refl _) _ |>.trans H2.out⟩
def memL (A : Nat -> Nat) (x y : Nat) : List Nat := (List.range (y - x)).map fun i => A (x + i)
theorem memL_len (A : Nat -> Nat) (x y : Nat) : (memL A x y).length = y - x := by simp [memL]
theorem GoodN.mem_iff {N c : Nat} {A P f fr to mk : Nat -> Nat} {M : Nat -> Prop} {L : List Nat} (h : GoodN N A P f fr to mk c M L) {q : Nat} (hq : q < c) (x : Nat) : x ∈ memL A (fr q) (to q) ↔ x < N /\ f x = q := by
 obtain ⟨s1, s2, s3⟩ := h.span q hq
 unfold memL
 rw [List.mem_map]
 constructor
 ·rintro ⟨i, hi, rfl⟩
  have := List.mem_range.1 hi
  obtain ⟨h1, h2⟩ := h.ap (fr q + i) (by omega)
  exact ⟨h1, (h.mem _ q h1 hq).2 (by rw [h2]; omega)⟩
 ·rintro ⟨hx, e⟩
  obtain ⟨h1, h2⟩ := (h.mem x q hx hq).1 e
  exact ⟨P x - fr q, List.mem_range.2 (by omega), by rw [Nat.add_sub_cancel' h1]; exact (h.pa x hx).2⟩
theorem reads_mem {w : World} {B g n cp x y : Nat} {A : Nat -> Nat} (h : Own w B (sl g n cp) n (rowN n A)) (hx : x < y) (hy : y <= n) : ReadsI w (.slice (some ⟨g, x, none⟩) (y - x) (cp - x)) (y - x) (intsN (memL A x y)) := by
 obtain ⟨c1, c2, _, _⟩ := h.capN
 refine ⟨by simp [intsN, memL], _, _, rfl, by omega, by omega, (fun e => by cases e), fun i hi => ⟨g, x, rfl, fun j hj => ?_⟩⟩
 rw [h.cellAt (show x + j < n by omega)]
 simp [intsN, memL, hj]
theorem bel_m {w w' : World} (h : Below w.heap.size w w') {g i : Nat} {x : Value} (hc : w.cell? ⟨g, i, none⟩ = some x) : w'.cell? ⟨g, i, none⟩ = some x := by
 rw [h.cell (p := ⟨g, i, none⟩) (World.block_lt_of_cell? w _ hc)]; exact hc
theorem members_any {w : World} {B : Nat} {L : Lay} {N c : Nat} {A P f fr to mk : Nat -> Nat} {Tl : List Nat} (h : PtAt w B L N A P f fr to mk c Tl) {q : Nat} (hq : q < c) (hs : fr q < to q) (ht : to q <= N) (hN : N <= 1000000) (hc : c <= N) :
  Calls Try.prog 64 #[.pointer (some ⟨L.b, 0, none⟩), .int .i64 (q : Int)] w fun e w' => ∃ u, e = .returned u /\ Own w' w.heap.size u (to q - fr q) (intsN (memL A (fr q) (to q))) /\ Below w.heap.size w w' := by
  have b0 := h.box.cell 0
  have b3 := h.box.cell 3
  simp only [List.getElem?_toArray, List.getElem?_cons_zero, List.getElem?_cons_succ] at b0 b3
  obtain ⟨cA1, cA2, -, gA⟩ := h.all.capN
  have hcs : c <= L.cs /\ L.cs <= 9223372036854775807 := by
   obtain ⟨A', c', e, q1, q2, _⟩ := (h.spans.reads (fun _ => rfl) (by omega)).form
   simp only [Value.slice.injEq, true_and] at e
   obtain ⟨_, rfl⟩ := e
   exact ⟨q1, q2⟩
  have hcell : ∀ j v, (encS (fr q, to q, mk q))[j]? = some v -> w.cell? ⟨L.gs, 0 + q * 3 + j, none⟩ = some v := by
   rcases h.spans.form (fun _ => rfl) (by omega) with ⟨e, _⟩ | ⟨g, cap, e, _, _, _, _, hc⟩
   ·cases e
   ·simp only [Value.slice.injEq, Option.some.injEq, Addr.mk.injEq, and_true, true_and] at e
    obtain ⟨rfl, rfl⟩ := e
    exact hc q _ (rowS_at fr to mk hq)
  have s0 := hcell 0 _ rfl
  have s1 := hcell 1 _ rfl
  have s2 := hcell 2 _ rfl
  rw [Nat.zero_add] at s0 s1 s2
  rw [Nat.add_zero] at s0
  have q0 : (0 : Int) <= (q : Int) := Int.natCast_nonneg _
  have q1 : (q : Int) < (c : Int) := by omega
  have tq : decide (q < c) = true := by simpa using hq
  have HRD := Lib.hid (reads_mem h.all hs ht)
  unfold maxLen at cA2
  clear hcell h
  generalize fr q = x at *
  generalize to q = y at *
  generalize mk q = z at *
  have x0 : (0 : Int) <= (x : Int) := Int.natCast_nonneg _
  have x1 : (x : Int) <= (y : Int) := by omega
  have x2 : ¬ (L.ca = x) := by omega
  have x3 : (y : Int) <= (L.ca : Int) := by omega
  have hyx : y - x <= 1000000000 := by omega
  have HCL := Lib.hid (fun (W : World) (hh : ReadsI W (.slice (some ⟨L.ga, x, none⟩) (y - x) (L.ca - x)) (y - x) (intsN (memL A x y))) => cloneI_any hh hyx)
  obtain ⟨W0, hW0⟩ : ∃ W0, w.alloc (.cells #[.int .i64 (x : Int), .int .i64 (y : Int), .int .i64 (z : Int)] 113) = W0 := ⟨_, rfl⟩
  have hb0 : Below w.heap.size w W0 := by rw [<- hW0]; exact (Below.refl _ _).alloc (Nat.le_refl _) _
  have hx0 : Blk W0 w.heap.size 113 #[.int .i64 (x : Int), .int .i64 (y : Int), .int .i64 (z : Int)] := by rw [<- hW0]; exact Blk.new _ _ _
  have HB0 := Lib.hid hb0; have HX0 := Lib.hid hx0; have HW0 := Lib.hid hW0
  clear hb0 hx0 hW0
  go_enter Try.func64, Try.ntmps64
  go_wp2_with fail
  rw [HW0.out]
  refine wp_region_still_tail 9 (by kernel_rfl) (by kernel_rfl) ?_
  simp only [List.take_succ_cons, List.take_zero, List.drop_succ_cons, List.drop_zero]
  change wpStill _ _ W0.drew _ _ _
  have d0 : W0.drew.cell? ⟨L.b, 0, none⟩ = some (sl L.ga N L.ca) := bel_m HB0.out b0
  have d1 : W0.drew.cell? ⟨w.heap.size, 0, none⟩ = some (.int .i64 (x : Int)) := by have := HX0.out.cell 0; simpa using this
  have d2 : W0.drew.cell? ⟨w.heap.size, 1, none⟩ = some (.int .i64 (y : Int)) := by have := HX0.out.cell 1; simpa using this
  have HRD2 : Hid (ReadsI W0.drew (.slice (some ⟨L.ga, x, none⟩) (y - x) (L.ca - x)) (y - x) (intsN (memL A x y))) := Lib.hid (HRD.out.below HB0.out.drew)
  have HB1 : Hid (Below w.heap.size w W0.drew) := Lib.hid HB0.out.drew
  have hz : w.heap.size <= W0.drew.heap.size := HB1.out.size
  clear b0 b3 s0 s1 s2 HRD HB0 HX0 HW0
  repeat still_step
  refine wpStill_nil ?_
  change wpList _ _ _ _ _ W0.drew
  generalize W0.drew = W at *
  go_wp2_with fail
  refine (HCL.out W HRD2.out).mono ?_
  rintro e w1 ⟨u, rfl, ho, hb⟩
  have HO := Lib.hid ho; have HB := Lib.hid hb
  clear ho hb
  go_wp2_with fail
  go_ret
  exact ⟨_, rfl, HO.out.more hz, HB1.out.trans (HB.out.mono hz)⟩
end Go.Proofs.Ytdcokkgdahbinaa
