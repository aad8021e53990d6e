/- The law UtfKnown returns true, whatever the number. -/
import Derived.Test.YtcdenblejfmkaaaUtfV
namespace Go.Proofs.Ytcdenblejfmkaaa
open Go.RowKit Go.Proofs
set_option linter.unusedVariables false

/-- What the law text's tables hold at a place: some bytes, and a row that reads as their scalars. -/
def Pair (W : World) (b1 b2 i : Nat) : Prop :=
  ∃ (S : ByteArray) (a : Option Addr) (n c : Nat), S.size ≤ 100 ∧ W.cell? ⟨b1, i, none⟩ = some (.string S) ∧ W.cell? ⟨b2, i, none⟩ = some (.slice a n c) ∧ (scs S.data.toList).length = n ∧ Reads W (.slice a n c) n (scs S.data.toList)
theorem Pair.mk0 {W : World} {b1 b2 i : Nat} (h1 : W.cell? ⟨b1, i, none⟩ = some (.string ⟨#[]⟩)) (h2 : W.cell? ⟨b2, i, none⟩ = some (.slice none 0 0)) : Pair W b1 b2 i :=
  ⟨⟨#[]⟩, _, 0, 0, by decide, h1, h2, rfl, rfl, none, 0, rfl, fun _ => rfl, fun j hj => absurd hj (by omega)⟩
theorem Pair.mk1 {W : World} {b1 b2 i g c n : Nat} {S : ByteArray} {l : List Int} (h1 : W.cell? ⟨b1, i, none⟩ = some (.string S)) (h2 : W.cell? ⟨b2, i, none⟩ = some (.slice (some ⟨g, 0, none⟩) n c)) (hS : S.size ≤ 100) (hl : scs S.data.toList = l) (hn : l.length = n)
    (hc : ∀ j, j < n → W.cell? ⟨g, j, none⟩ = some (.int .i64 (l.getD j 0))) : Pair W b1 b2 i :=
  ⟨S, _, n, c, hS, h1, h2, by rw [hl, hn], by rw [hl]; exact hn, some ⟨g, 0, none⟩, c, rfl, fun e => (by cases e), fun j hj => ⟨g, 0, rfl, fun j hj => by rw [hl, Nat.zero_add]; exact hc j hj⟩⟩

/-- New blocks, one behind the other. -/
def allocs (w : World) (os : List Obj) : World := os.foldl World.alloc w
theorem allocs_block (os : List Obj) : ∀ (w : World) (k : Nat) (o : Obj), os[k]? = some o → (allocs w os).heap[w.heap.size + k]? = some o := by
  induction os with
  | nil => intro w k o h; simp at h
  | cons x os ih =>
    intro w k o h
    have old : ∀ (os : List Obj) (w : World) (j : Nat), j < w.heap.size → (allocs w os).heap[j]? = w.heap[j]? := by
      intro os
      induction os with
      | nil => intro w j hj; rfl
      | cons y os ih =>
        intro w j hj
        show (allocs (w.alloc y) os).heap[j]? = _
        rw [ih (w.alloc y) j (by simp; omega), Below.heap_alloc w y j hj]
    show (allocs (w.alloc x) os).heap[w.heap.size + k]? = some o
    cases k with
    | zero =>
      rw [Nat.add_zero, old os (w.alloc x) w.heap.size (by simp), heap_alloc_new w x]
      simpa using h
    | succ k =>
      have := ih (w.alloc x) k o (by simpa using h)
      rw [show w.heap.size + (k + 1) = (w.alloc x).heap.size + k by simp; omega]
      exact this
theorem allocs_below (os : List Obj) : ∀ (w : World), Below w.heap.size w (allocs w os) := by
  have key : ∀ (os : List Obj) (B : Nat) (w : World), B ≤ w.heap.size → Below B w (allocs w os) := by
    intro os
    induction os with
    | nil => intro B w _; exact Below.refl _ _
    | cons x os ih =>
      intro B w hB
      exact ((Below.refl B w).alloc hB x).trans (ih B (w.alloc x) (by simp; omega))
  intro w
  exact key os _ w (Nat.le_refl _)
theorem allocs_size (os : List Obj) : ∀ (w : World), (allocs w os).heap.size = w.heap.size + os.length := by
  induction os with
  | nil => intro w; rfl
  | cons x os ih =>
    intro w
    show (allocs (w.alloc x) os).heap.size = _
    rw [ih, List.length_cons]; simp; omega

/-- The blocks of the law text's tables; the first lies at B. -/
def knownObjs (B : Nat) : List Obj := [
  .cells #[.string ⟨#[]⟩, .string ⟨#[97]⟩, .string ⟨#[195, 164]⟩, .string ⟨#[192, 128]⟩, .string ⟨#[224, 128, 128]⟩, .string ⟨#[224, 160, 128]⟩, .string ⟨#[237, 160, 128]⟩, .string ⟨#[237, 159, 191]⟩, .string ⟨#[240, 144, 128, 128]⟩, .string ⟨#[240, 143, 191, 191]⟩, .string ⟨#[244, 143, 191, 191]⟩, .string ⟨#[244, 144, 128, 128]⟩, .string ⟨#[240, 159, 152, 97]⟩, .string ⟨#[226, 130, 226, 130, 172]⟩, .string ⟨#[128, 128]⟩, .string ⟨#[254, 255]⟩] 9,
  .cells #[.int .i64 97] 3,
  .cells #[.int .i64 228] 3,
  .cells #[.int .i64 65533, .int .i64 65533] 3,
  .cells #[.int .i64 65533, .int .i64 65533, .int .i64 65533] 3,
  .cells #[.int .i64 2048] 3,
  .cells #[.int .i64 65533, .int .i64 65533, .int .i64 65533] 3,
  .cells #[.int .i64 55295] 3,
  .cells #[.int .i64 65536] 3,
  .cells #[.int .i64 65533, .int .i64 65533, .int .i64 65533, .int .i64 65533] 3,
  .cells #[.int .i64 1114111] 3,
  .cells #[.int .i64 65533, .int .i64 65533, .int .i64 65533, .int .i64 65533] 3,
  .cells #[.int .i64 65533, .int .i64 97] 3,
  .cells #[.int .i64 65533, .int .i64 8364] 3,
  .cells #[.int .i64 65533, .int .i64 65533] 3,
  .cells #[.int .i64 65533, .int .i64 65533] 3,
  .cells #[.slice none 0 0, .slice (some ⟨B + 1, 0, none⟩) 1 1, .slice (some ⟨B + 1 + 1, 0, none⟩) 1 1, .slice (some ⟨B + 1 + 1 + 1, 0, none⟩) 2 2, .slice (some ⟨B + 1 + 1 + 1 + 1, 0, none⟩) 3 3, .slice (some ⟨B + 1 + 1 + 1 + 1 + 1, 0, none⟩) 1 1, .slice (some ⟨B + 1 + 1 + 1 + 1 + 1 + 1, 0, none⟩) 3 3, .slice (some ⟨B + 1 + 1 + 1 + 1 + 1 + 1 + 1, 0, none⟩) 1 1, .slice (some ⟨B + 1 + 1 + 1 + 1 + 1 + 1 + 1 + 1, 0, none⟩) 1 1, .slice (some ⟨B + 1 + 1 + 1 + 1 + 1 + 1 + 1 + 1 + 1, 0, none⟩) 4 4, .slice (some ⟨B + 1 + 1 + 1 + 1 + 1 + 1 + 1 + 1 + 1 + 1, 0, none⟩) 1 1, .slice (some ⟨B + 1 + 1 + 1 + 1 + 1 + 1 + 1 + 1 + 1 + 1 + 1, 0, none⟩) 4 4, .slice (some ⟨B + 1 + 1 + 1 + 1 + 1 + 1 + 1 + 1 + 1 + 1 + 1 + 1, 0, none⟩) 2 2, .slice (some ⟨B + 1 + 1 + 1 + 1 + 1 + 1 + 1 + 1 + 1 + 1 + 1 + 1 + 1, 0, none⟩) 2 2, .slice (some ⟨B + 1 + 1 + 1 + 1 + 1 + 1 + 1 + 1 + 1 + 1 + 1 + 1 + 1 + 1, 0, none⟩) 2 2, .slice (some ⟨B + 1 + 1 + 1 + 1 + 1 + 1 + 1 + 1 + 1 + 1 + 1 + 1 + 1 + 1 + 1, 0, none⟩) 2 2] 22]

theorem known_table (w : World) (i : Nat) (hi : i < 16) : Pair (allocs w (knownObjs w.heap.size)) w.heap.size (w.heap.size + 1 + 1 + 1 + 1 + 1 + 1 + 1 + 1 + 1 + 1 + 1 + 1 + 1 + 1 + 1 + 1) i := by
  have h0 := allocs_block (knownObjs w.heap.size) w 0 _ rfl
  have h16 := allocs_block (knownObjs w.heap.size) w 16 _ rfl
  rcases (show i = 0 ∨ i = 1 ∨ i = 2 ∨ i = 3 ∨ i = 4 ∨ i = 5 ∨ i = 6 ∨ i = 7 ∨ i = 8 ∨ i = 9 ∨ i = 10 ∨ i = 11 ∨ i = 12 ∨ i = 13 ∨ i = 14 ∨ i = 15 by omega) with rfl | rfl | rfl | rfl | rfl | rfl | rfl | rfl | rfl | rfl | rfl | rfl | rfl | rfl | rfl | rfl
  · exact Pair.mk0 ((Lib.cell_of_heap h0 _).trans rfl) ((Lib.cell_of_heap h16 _).trans rfl)
  · refine Pair.mk1 (l := [97]) ((Lib.cell_of_heap h0 _).trans rfl) ((Lib.cell_of_heap h16 _).trans rfl) (by decide) (by decide +kernel) rfl (fun j hj => ?_)
    have hb := allocs_block (knownObjs w.heap.size) w 1 _ rfl
    rcases (show j = 0 by omega) with rfl <;> exact (Lib.cell_of_heap hb _).trans rfl
  · refine Pair.mk1 (l := [228]) ((Lib.cell_of_heap h0 _).trans rfl) ((Lib.cell_of_heap h16 _).trans rfl) (by decide) (by decide +kernel) rfl (fun j hj => ?_)
    have hb := allocs_block (knownObjs w.heap.size) w 2 _ rfl
    rcases (show j = 0 by omega) with rfl <;> exact (Lib.cell_of_heap hb _).trans rfl
  · refine Pair.mk1 (l := [65533, 65533]) ((Lib.cell_of_heap h0 _).trans rfl) ((Lib.cell_of_heap h16 _).trans rfl) (by decide) (by decide +kernel) rfl (fun j hj => ?_)
    have hb := allocs_block (knownObjs w.heap.size) w 3 _ rfl
    rcases (show j = 0 ∨ j = 1 by omega) with rfl | rfl <;> exact (Lib.cell_of_heap hb _).trans rfl
  · refine Pair.mk1 (l := [65533, 65533, 65533]) ((Lib.cell_of_heap h0 _).trans rfl) ((Lib.cell_of_heap h16 _).trans rfl) (by decide) (by decide +kernel) rfl (fun j hj => ?_)
    have hb := allocs_block (knownObjs w.heap.size) w 4 _ rfl
    rcases (show j = 0 ∨ j = 1 ∨ j = 2 by omega) with rfl | rfl | rfl <;> exact (Lib.cell_of_heap hb _).trans rfl
  · refine Pair.mk1 (l := [2048]) ((Lib.cell_of_heap h0 _).trans rfl) ((Lib.cell_of_heap h16 _).trans rfl) (by decide) (by decide +kernel) rfl (fun j hj => ?_)
    have hb := allocs_block (knownObjs w.heap.size) w 5 _ rfl
    rcases (show j = 0 by omega) with rfl <;> exact (Lib.cell_of_heap hb _).trans rfl
  · refine Pair.mk1 (l := [65533, 65533, 65533]) ((Lib.cell_of_heap h0 _).trans rfl) ((Lib.cell_of_heap h16 _).trans rfl) (by decide) (by decide +kernel) rfl (fun j hj => ?_)
    have hb := allocs_block (knownObjs w.heap.size) w 6 _ rfl
    rcases (show j = 0 ∨ j = 1 ∨ j = 2 by omega) with rfl | rfl | rfl <;> exact (Lib.cell_of_heap hb _).trans rfl
  · refine Pair.mk1 (l := [55295]) ((Lib.cell_of_heap h0 _).trans rfl) ((Lib.cell_of_heap h16 _).trans rfl) (by decide) (by decide +kernel) rfl (fun j hj => ?_)
    have hb := allocs_block (knownObjs w.heap.size) w 7 _ rfl
    rcases (show j = 0 by omega) with rfl <;> exact (Lib.cell_of_heap hb _).trans rfl
  · refine Pair.mk1 (l := [65536]) ((Lib.cell_of_heap h0 _).trans rfl) ((Lib.cell_of_heap h16 _).trans rfl) (by decide) (by decide +kernel) rfl (fun j hj => ?_)
    have hb := allocs_block (knownObjs w.heap.size) w 8 _ rfl
    rcases (show j = 0 by omega) with rfl <;> exact (Lib.cell_of_heap hb _).trans rfl
  · refine Pair.mk1 (l := [65533, 65533, 65533, 65533]) ((Lib.cell_of_heap h0 _).trans rfl) ((Lib.cell_of_heap h16 _).trans rfl) (by decide) (by decide +kernel) rfl (fun j hj => ?_)
    have hb := allocs_block (knownObjs w.heap.size) w 9 _ rfl
    rcases (show j = 0 ∨ j = 1 ∨ j = 2 ∨ j = 3 by omega) with rfl | rfl | rfl | rfl <;> exact (Lib.cell_of_heap hb _).trans rfl
  · refine Pair.mk1 (l := [1114111]) ((Lib.cell_of_heap h0 _).trans rfl) ((Lib.cell_of_heap h16 _).trans rfl) (by decide) (by decide +kernel) rfl (fun j hj => ?_)
    have hb := allocs_block (knownObjs w.heap.size) w 10 _ rfl
    rcases (show j = 0 by omega) with rfl <;> exact (Lib.cell_of_heap hb _).trans rfl
  · refine Pair.mk1 (l := [65533, 65533, 65533, 65533]) ((Lib.cell_of_heap h0 _).trans rfl) ((Lib.cell_of_heap h16 _).trans rfl) (by decide) (by decide +kernel) rfl (fun j hj => ?_)
    have hb := allocs_block (knownObjs w.heap.size) w 11 _ rfl
    rcases (show j = 0 ∨ j = 1 ∨ j = 2 ∨ j = 3 by omega) with rfl | rfl | rfl | rfl <;> exact (Lib.cell_of_heap hb _).trans rfl
  · refine Pair.mk1 (l := [65533, 97]) ((Lib.cell_of_heap h0 _).trans rfl) ((Lib.cell_of_heap h16 _).trans rfl) (by decide) (by decide +kernel) rfl (fun j hj => ?_)
    have hb := allocs_block (knownObjs w.heap.size) w 12 _ rfl
    rcases (show j = 0 ∨ j = 1 by omega) with rfl | rfl <;> exact (Lib.cell_of_heap hb _).trans rfl
  · refine Pair.mk1 (l := [65533, 8364]) ((Lib.cell_of_heap h0 _).trans rfl) ((Lib.cell_of_heap h16 _).trans rfl) (by decide) (by decide +kernel) rfl (fun j hj => ?_)
    have hb := allocs_block (knownObjs w.heap.size) w 13 _ rfl
    rcases (show j = 0 ∨ j = 1 by omega) with rfl | rfl <;> exact (Lib.cell_of_heap hb _).trans rfl
  · refine Pair.mk1 (l := [65533, 65533]) ((Lib.cell_of_heap h0 _).trans rfl) ((Lib.cell_of_heap h16 _).trans rfl) (by decide) (by decide +kernel) rfl (fun j hj => ?_)
    have hb := allocs_block (knownObjs w.heap.size) w 14 _ rfl
    rcases (show j = 0 ∨ j = 1 by omega) with rfl | rfl <;> exact (Lib.cell_of_heap hb _).trans rfl
  · refine Pair.mk1 (l := [65533, 65533]) ((Lib.cell_of_heap h0 _).trans rfl) ((Lib.cell_of_heap h16 _).trans rfl) (by decide) (by decide +kernel) rfl (fun j hj => ?_)
    have hb := allocs_block (knownObjs w.heap.size) w 15 _ rfl
    rcases (show j = 0 ∨ j = 1 by omega) with rfl | rfl <;> exact (Lib.cell_of_heap hb _).trans rfl

set_option maxRecDepth 100000 in
set_option maxHeartbeats 2000000 in
theorem knownLaw_walk (a0 : Int) (w : World) (wa : (Lit.int .i64 a0).wf = true) :
    Calls Try.prog 10 #[.int .i64 a0] w fun e w' => e = .returned (.bool true) ∧ Below w.heap.size w w' := by
  have WA := Lib.hid wa; clear wa
  go_enter Try.func10, Try.ntmps10
  go_wp2_with fail
  refine (known_any _).mono ?_
  rintro e w1 ⟨rfl, hb1⟩
  have HB1 := Lib.hid hb1; clear hb1
  go_wp2_with fail
  obtain ⟨W, hW⟩ : ∃ W, W = allocs w1 (knownObjs w1.heap.size) := ⟨_, rfl⟩
  have htab : ∀ i, i < 16 → Pair W w1.heap.size (w1.heap.size + 1 + 1 + 1 + 1 + 1 + 1 + 1 + 1 + 1 + 1 + 1 + 1 + 1 + 1 + 1 + 1) i := fun i hi => by rw [hW]; exact known_table w1 i hi
  have hbW : Below w.heap.size w W := by rw [hW]; exact HB1.out.trans ((allocs_below _ w1).mono HB1.out.size)
  have hzW : w1.heap.size + 17 ≤ W.heap.size := by rw [hW, allocs_size]; exact Nat.le_refl _
  simp only [allocs, knownObjs, List.foldl_cons, List.foldl_nil] at hW
  rw [← hW]
  have HT := Lib.hid htab; have HBW := Lib.hid hbW
  clear hW htab hbW
  have z1 : w1.heap.size < W.heap.size := by omega
  have z2 : w1.heap.size + 1 + 1 + 1 + 1 + 1 + 1 + 1 + 1 + 1 + 1 + 1 + 1 + 1 + 1 + 1 + 1 < W.heap.size := by omega
  clear hzW
  generalize w1.heap.size + 1 + 1 + 1 + 1 + 1 + 1 + 1 + 1 + 1 + 1 + 1 + 1 + 1 + 1 + 1 + 1 = b2 at *
  generalize w1.heap.size = b1 at *
  refine (within_any a0 16 _ WA.out (by omega) (by omega)).mono ?_; rintro e w' ⟨rfl, rfl⟩
  obtain ⟨j, hj⟩ : ∃ j : Nat, a0 % 16 = (j : Int) := ⟨(a0 % 16).toNat, by omega⟩
  have hj16 : j < 16 := by omega
  rw [hj]
  obtain ⟨S, a, n, c, hS, h1, h2, h3, h4⟩ := HT.out j hj16
  have j0 : (0 : Int) ≤ (j : Int) := Int.natCast_nonneg _
  have j1 : (j : Int) < 16 := by omega
  have H4 := Lib.hid h4; have H3 := Lib.hid h3; have HJ := Lib.hid hj; clear h3 h4 hj
  go_wp2_with fail
  refine (decode_any S _ (by omega)).mono ?_
  rintro e w2 ⟨v, u, rfl, hv, hu, hap, hb2⟩
  have h2' : w2.cell? ⟨b2, j, none⟩ = some (.slice a n c) := by rw [(bcell hb2).1 _ _ z2]; exact h2
  have HV := Lib.hid hv; have HR := Lib.hid (H4.out.below hb2)
  have HB2 := Lib.hid (HBW.out.trans (hb2.mono HBW.out.size)); have hz2 := HB2.out.size
  rw [H3.out] at hu
  obtain ⟨gq, cq, rfl, _, _, _, _⟩ := hu.slice (by omega)
  have hvs : ∃ av cv, v = .slice av n cv := by obtain ⟨_, av, cv, h, _⟩ := hv.reads; exact ⟨av, cv, by rw [h, H3.out]⟩
  obtain ⟨av, cv, rfl⟩ := hvs
  have hsl := scs_length_le S.data.toList
  have hn : n ≤ 100 := by rw [← H3.out]; exact Nat.le_trans hsl hS
  clear hv hu hap hb2 hsl
  go_wp2_with fail
  have hv3 := HV.out.reads
  rw [H3.out] at hv3
  refine (ints_any hv3 HR.out (by omega)).mono ?_
  rintro e w3 ⟨rfl, hb3⟩
  have HB3 := Lib.hid (HB2.out.trans (hb3.mono hz2))
  clear hb3 hv3
  go_wp2_with fail
  go_ret
  exact ⟨rfl, HB3.out⟩

end Go.Proofs.Ytcdenblejfmkaaa
