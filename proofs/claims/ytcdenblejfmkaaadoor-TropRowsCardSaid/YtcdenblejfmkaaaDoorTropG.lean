/- Contracts of trop.word and trop.Text: three costs are written as the document says. -/
import Derived.Test.YtcdenblejfmkaaaDoorTropF
import Derived.Test.YtcdenblejfmkaaaDoorShelf
import Derived.Lib.SmallJoins
import Derived.Lib.AppendIntMem
import Derived.Lib.ItoaNum
namespace Go.Proofs.YtcdenblejfmkaaaDoor
open Go.RowKit

/-- The table of powers of ten of the library's strconv, as it is laid when the program starts. -/
def Tab (w : World) : Prop := Lib.TabIs Tryd.prog w "internal/strconv.uint64pow10" .u64 Lib.pow10Tab
theorem gTab : Tryd.prog.globalNamed "internal/strconv.uint64pow10" = some 1 := by kernel_rfl
theorem Tab.below {w w' : World} (h : Tab w) (hb : Below w.heap.size w w') : Tab w' := Go.Joins.tab_stays gTab h hb (Nat.le_refl _)

/-- A cost as it is written: digits, or '-' for Inf. -/
def wtext (n : Int) : List UInt8 := if 1152921504606846976 ≤ n then [45] else Lib.decDigits n.toNat

theorem nDigits_le : ∀ (k u : Nat), u < 10 ^ (k + 1) → Lib.nDigits u ≤ k + 1
  | 0, u, h => by rw [Lib.nDigits_small (by simpa using h)]; exact Nat.le_refl _
  | k + 1, u, h => by
    by_cases hu : u < 10
    · rw [Lib.nDigits_small hu]; omega
    · rw [Lib.nDigits_big hu]
      have := nDigits_le k (u / 10) (by rw [Nat.pow_succ] at h; omega)
      omega
theorem wtext_len (n : Int) : (wtext n).length ≤ 19 := by
  unfold wtext
  split
  · simp
  · rw [Lib.decDigits_eq]
    simp only [List.length_map, List.length_range]
    exact nDigits_le 18 _ (by omega)

theorem word_any (n : Int) (w : World) (hn : IsCost n) (ht : Tab w) :
    Calls Tryd.prog 14 #[.int .i64 n] w fun e w' => e = .returned (.string ⟨(wtext n).toArray⟩) ∧ Below w.heap.size w w' := by
  obtain ⟨h1, h2⟩ := hn
  have HT := Lib.hid ht; clear ht
  by_cases h : 1152921504606846976 ≤ n
  · have hw : wtext n = [45] := if_pos h
    have HW := Lib.hid hw; clear hw
    go_enter Tryd.func14, Tryd.ntmps14
    go_wp2_with fail
    go_ret
    exact ⟨by rw [HW.out]; rfl, Below.refl _ _⟩
  · have hw : wtext n = Lib.itoa n := by unfold wtext Lib.itoa; rw [if_neg h, if_neg (by omega)]
    have HW := Lib.hid hw; clear hw
    go_enter Tryd.func14, Tryd.ntmps14
    go_wp2_with fail
    refine (Go.Proofs.Tryd.strconv_Itoa n (by omega) (by omega) _ HT.out).mono ?_
    rintro e w' ⟨rfl, k, os, hw'⟩
    have hb : Below w.heap.size w w' := by rw [hw']; exact Lib.below_grow _ _ (Nat.le_refl _) _ _
    clear hw'
    go_wp2_with fail
    go_ret
    exact ⟨by rw [HW.out]; rfl, hb⟩

/-- Three costs as they are written. -/
def vtext (a b c : Int) : List UInt8 := Lib.join [wtext a, wtext b, wtext c] [32]

/-- Three strings in a row of the call's own. -/
structure Row3 (w : World) (b : Nat) (s0 s1 s2 : ByteArray) : Prop where
  c0 : w.cell? ⟨b, 0, none⟩ = some (.string s0)
  c1 : w.cell? ⟨b, 1, none⟩ = some (.string s1)
  c2 : w.cell? ⟨b, 2, none⟩ = some (.string s2)
  f : ∀ o, w.frozen? ⟨b, o, none⟩ = false
  z : b < w.heap.size
theorem Row3.below {w w' : World} {b : Nat} {s0 s1 s2 : ByteArray} (h : Row3 w b s0 s1 s2) (hb : Below w.heap.size w w') : Row3 w' b s0 s1 s2 := by
  obtain ⟨hc, hf⟩ := bcell hb
  have hz := hb.size
  have := h.z
  exact ⟨by rw [hc _ _ h.z]; exact h.c0, by rw [hc _ _ h.z]; exact h.c1, by rw [hc _ _ h.z]; exact h.c2, fun o => by rw [hf _ _ h.z]; exact h.f o, by omega⟩

theorem Row3.set0 {w : World} {b : Nat} {s0 s1 s2 : ByteArray} (h : Row3 w b s0 s1 s2) (x : ByteArray) : Row3 (w.setCell ⟨b, 0, none⟩ (.string x)) b x s1 s2 :=
  ⟨by simp [go_sem, h.c0], by simp [go_sem, h.c1], by simp [go_sem, h.c2], fun o => by simp [go_sem, h.f], by have := h.z; simpa [World.setCell] using this⟩
theorem Row3.set1 {w : World} {b : Nat} {s0 s1 s2 : ByteArray} (h : Row3 w b s0 s1 s2) (x : ByteArray) : Row3 (w.setCell ⟨b, 1, none⟩ (.string x)) b s0 x s2 :=
  ⟨by simp [go_sem, h.c0], by simp [go_sem, h.c1], by simp [go_sem, h.c2], fun o => by simp [go_sem, h.f], by have := h.z; simpa [World.setCell] using this⟩
theorem Row3.set2 {w : World} {b : Nat} {s0 s1 s2 : ByteArray} (h : Row3 w b s0 s1 s2) (x : ByteArray) : Row3 (w.setCell ⟨b, 2, none⟩ (.string x)) b s0 s1 x :=
  ⟨by simp [go_sem, h.c0], by simp [go_sem, h.c1], by simp [go_sem, h.c2], fun o => by simp [go_sem, h.f], by have := h.z; simpa [World.setCell] using this⟩

theorem vtext_len (a b c : Int) : (vtext a b c).length ≤ 100 := by
  have := wtext_len a; have := wtext_len b; have := wtext_len c
  unfold vtext Lib.join
  simp [List.intercalate]
  omega

theorem vtext_eq (a b c : Int) : vtext a b c = wtext a ++ [32] ++ wtext b ++ [32] ++ wtext c := by
  unfold vtext Lib.join
  simp [List.intercalate]

set_option maxHeartbeats 400000 in
theorem text_any (a b c : Int) (w : World) (ha : IsCost a) (hb : IsCost b) (hc : IsCost c) (ht : Tab w) :
    Calls Tryd.prog 11 #[.agg #[.int .i64 a, .int .i64 b, .int .i64 c]] w fun e w' => e = .returned (.string ⟨(vtext a b c).toArray⟩) ∧ Below w.heap.size w w' := by
  have HA := Lib.hid ha; have HB := Lib.hid hb; have HC := Lib.hid hc; have HT := Lib.hid ht; clear ha hb hc ht
  have i0 : ∀ w : World, (Instr.index 25 (.agg #[.int .i64 a, .int .i64 b, .int .i64 c]) (.int .i64 0)).run Tryd.prog w = .ok (.int .i64 a) w := fun _ => by kernel_rfl
  have i1 : ∀ w : World, (Instr.index 25 (.agg #[.int .i64 a, .int .i64 b, .int .i64 c]) (.int .i64 1)).run Tryd.prog w = .ok (.int .i64 b) w := fun _ => by kernel_rfl
  have i2 : ∀ w : World, (Instr.index 25 (.agg #[.int .i64 a, .int .i64 b, .int .i64 c]) (.int .i64 2)).run Tryd.prog w = .ok (.int .i64 c) w := fun _ => by kernel_rfl
  go_enter Tryd.func11, Tryd.ntmps11
  go_wp2_with fail
  refine wp_loop_rounds 4 ?_; rw [rounds_succ]
  go_wp2_with fail
  have hb0 : Below w.heap.size w ((w.alloc (.cells #[.int .i64 a, .int .i64 b, .int .i64 c] 25)).alloc (.cells #[.string ⟨#[]⟩, .string ⟨#[]⟩, .string ⟨#[]⟩] 35)) := ((Below.refl _ _).alloc (Nat.le_refl _) _).alloc (by simp) _
  have r0 : Row3 ((w.alloc (.cells #[.int .i64 a, .int .i64 b, .int .i64 c] 25)).alloc (.cells #[.string ⟨#[]⟩, .string ⟨#[]⟩, .string ⟨#[]⟩] 35)) (w.heap.size + 1) ⟨#[]⟩ ⟨#[]⟩ ⟨#[]⟩ := ⟨by simp [go_sem], by simp [go_sem], by simp [go_sem], fun o => by simp [go_sem], by simp⟩
  have HR0 := Lib.hid r0; have HB0 := Lib.hid hb0; clear r0 hb0
  refine (word_any a _ HA.out (HT.out.below HB0.out)).mono ?_
  rintro e w1 ⟨rfl, hb1⟩
  have r1 := HR0.out.below hb1
  have hB1 : Below w.heap.size w w1 := HB0.out.trans (hb1.mono (by simp; omega))
  have HR1 := Lib.hid r1
  have HB1 := Lib.hid hB1
  clear hb1 HR0 HB0 hB1
  obtain ⟨c0, c1, c2, f, z⟩ := r1
  go_wp2_with fail
  rw [rounds_succ]
  go_wp2_with fail
  have hB2 := HB1.out.setCell (p := ⟨w.heap.size + 1, 0, none⟩) (by simp) (.string ⟨(wtext a).toArray⟩)
  have HR2 := Lib.hid (HR1.out.set0 ⟨(wtext a).toArray⟩)
  have HB2 := Lib.hid hB2
  clear c0 c1 c2 f z HR1 HB1 hB2
  refine (word_any b _ HB.out (HT.out.below HB2.out)).mono ?_
  rintro e w2 ⟨rfl, hb2⟩
  have r3 := HR2.out.below hb2
  have hB3 : Below w.heap.size w w2 := HB2.out.trans (hb2.mono HB2.out.size)
  have HR3 := Lib.hid r3
  have HB3 := Lib.hid hB3
  clear hb2 HR2 HB2 hB3
  obtain ⟨c0, c1, c2, f, z⟩ := r3
  go_wp2_with fail
  rw [rounds_succ]
  go_wp2_with fail
  have hB4 := HB3.out.setCell (p := ⟨w.heap.size + 1, 1, none⟩) (by simp) (.string ⟨(wtext b).toArray⟩)
  have HR4 := Lib.hid (HR3.out.set1 ⟨(wtext b).toArray⟩)
  have HB4 := Lib.hid hB4
  clear c0 c1 c2 f z HR3 HB3 hB4
  refine (word_any c _ HC.out (HT.out.below HB4.out)).mono ?_
  rintro e w3 ⟨rfl, hb3⟩
  have r5 := HR4.out.below hb3
  have hB5 : Below w.heap.size w w3 := HB4.out.trans (hb3.mono HB4.out.size)
  have HR5 := Lib.hid r5
  have HB5 := Lib.hid hB5
  clear hb3 HR4 HB4 hB5
  obtain ⟨c0, c1, c2, f, z⟩ := r5
  go_wp2_with fail
  rw [rounds_succ]
  go_wp2_with fail
  have hB6 := HB5.out.setCell (p := ⟨w.heap.size + 1, 2, none⟩) (by simp) (.string ⟨(wtext c).toArray⟩)
  have HR6 := Lib.hid (HR5.out.set2 ⟨(wtext c).toArray⟩)
  have HB6 := Lib.hid hB6
  clear c0 c1 c2 f z HR5 HB5 hB6
  refine (Go.Proofs.Tryd.strings_Join (w.heap.size + 1) 0 3 [⟨(wtext a).toArray⟩, ⟨(wtext b).toArray⟩, ⟨(wtext c).toArray⟩] ⟨#[32]⟩ _ ?_ HR6.out.z (by simp) (by simp) ?_).mono ?_
  · intro j x hj
    match j, hj with
    | 0, hj => simp at hj; subst hj; exact HR6.out.c0
    | 1, hj => simp at hj; subst hj; exact HR6.out.c1
    | 2, hj => simp at hj; subst hj; exact HR6.out.c2
  · have := vtext_len a b c
    simp only [List.map_cons, List.map_nil]
    exact Nat.le_trans this (by omega)
  rintro e w4 ⟨rfl, hb4⟩
  have hB7 : Below w.heap.size w w4 := HB6.out.trans (hb4.mono HB6.out.size)
  have HB7 := Lib.hid hB7
  clear hb4 HR6 HB6 hB7
  go_wp2_with fail
  go_ret
  exact ⟨rfl, HB7.out⟩

end Go.Proofs.YtcdenblejfmkaaaDoor
