/- Contracts of utf's lead, behind, has: what may follow a first byte. -/
import Derived.Test.YtcdenblejfmkaaaUtfA
import Derived.Outline
namespace Go.Proofs.Ytcdenblejfmkaaa
open Go.RowKit

theorem bcell {W w1 : World} {B : Nat} (hb : Below B W w1) : (∀ b o, b < B → w1.cell? ⟨b, o, none⟩ = W.cell? ⟨b, o, none⟩) ∧ (∀ b o, b < B → w1.frozen? ⟨b, o, none⟩ = W.frozen? ⟨b, o, none⟩) :=
  ⟨fun b o h => hb.cell (p := ⟨b, o, none⟩) h, fun b o h => hb.frozen (p := ⟨b, o, none⟩) h⟩

theorem behind_any (w : World) :
    Calls Try.prog 29 #[] w fun e w' => e = .returned (.agg #[.int .u8 128, .int .u8 191]) ∧ Below w.heap.size w w' := by
  go_enter Try.func29, Try.ntmps29
  go_wp2_with fail
  refine bodyPost_ret (v := .agg #[.int .u8 128, .int .u8 191]) (by simp [results, Try.results29, go_sem]) rfl ⟨rfl, ?_⟩
  exact (Below.refl _ _).alloc (Nat.le_refl _) _

theorem has_any (lo hi c : Int) (w : World) :
    Calls Try.prog 28 #[.agg #[.int .u8 lo, .int .u8 hi], .int .u8 c] w fun e w' => e = .returned (.bool (inB lo hi c)) ∧ Below w.heap.size w w' := by
  rcases inB_cases lo hi c with ⟨g1, h⟩ | ⟨g1, g2, h⟩ | ⟨g1, g2, h⟩ <;> (have H := Lib.hid h; clear h)
  all_goals
    go_enter Try.func28, Try.ntmps28
    go_wp2_with fail
    go_ret
    exact ⟨ret_bool (by rw [H.out] <;> first | rfl | exact decide_eq_false (by omega) | exact decide_eq_true (by omega) | (simp; done) | (simp; omega)), (Below.refl _ _).alloc (Nat.le_refl _) _⟩

/-- What lead gives: how many bytes, and what the second may be. -/
def lsOf (c : Int) : Int := if c < 194 then 1 else if c ≤ 223 then 2 else if c ≤ 239 then 3 else if c ≤ 244 then 4 else 1
def spLo (c : Int) : Int := if c < 194 ∨ 244 < c then 0 else loOf c
def spHi (c : Int) : Int := if c < 194 ∨ 244 < c then 0 else hiOf c
theorem lead_cases (c : Int) : (c < 194 ∧ lsOf c = 1 ∧ spLo c = 0 ∧ spHi c = 0) ∨ (194 ≤ c ∧ c ≤ 223 ∧ lsOf c = 2 ∧ spLo c = 128 ∧ spHi c = 191) ∨ ((224 ≤ c ∧ c ≤ 224) ∧ lsOf c = 3 ∧ spLo c = 160 ∧ spHi c = 191) ∨ ((237 ≤ c ∧ c ≤ 237) ∧ lsOf c = 3 ∧ spLo c = 128 ∧ spHi c = 159) ∨
    (224 < c ∧ c < 240 ∧ c ≠ 237 ∧ lsOf c = 3 ∧ spLo c = 128 ∧ spHi c = 191) ∨ ((240 ≤ c ∧ c ≤ 240) ∧ lsOf c = 4 ∧ spLo c = 144 ∧ spHi c = 191) ∨ (240 < c ∧ c < 244 ∧ lsOf c = 4 ∧ spLo c = 128 ∧ spHi c = 191) ∨ ((244 ≤ c ∧ c ≤ 244) ∧ lsOf c = 4 ∧ spLo c = 128 ∧ spHi c = 143) ∨ (244 < c ∧ lsOf c = 1 ∧ spLo c = 0 ∧ spHi c = 0) := by
  unfold lsOf spLo spHi loOf hiOf
  by_cases h1 : c < 194
  · simp [h1]
  · by_cases h2 : 244 < c
    · simp [h1, h2]; omega
    · simp only [h1, h2, or_self, if_false]
      (repeat' split) <;> omega

theorem lead_plain (c : Int) (w : World) (h0 : 0 ≤ c) (h255 : c < 256) (h : c < 194 ∨ (224 ≤ c ∧ c ≤ 224) ∨ (237 ≤ c ∧ c ≤ 237) ∨ (240 ≤ c ∧ c ≤ 240) ∨ (244 ≤ c ∧ c ≤ 244) ∨ 244 < c) :
    Calls Try.prog 27 #[.int .u8 c] w fun e w' => e = .returned (.tuple #[.int .i64 (lsOf c), .agg #[.int .u8 (spLo c), .int .u8 (spHi c)]]) ∧ Below w.heap.size w w' := by
  rcases lead_cases c with ⟨g, a1, a2, a3⟩ | ⟨g1, g2, a1, a2, a3⟩ | ⟨⟨g1, g2⟩, a1, a2, a3⟩ | ⟨⟨g1, g2⟩, a1, a2, a3⟩ | ⟨g1, g2, g3, a1, a2, a3⟩ | ⟨⟨g1, g2⟩, a1, a2, a3⟩ | ⟨g1, g2, a1, a2, a3⟩ | ⟨⟨g1, g2⟩, a1, a2, a3⟩ | ⟨g, a1, a2, a3⟩ <;> have A1 := Lib.hid a1 <;> have A2 := Lib.hid a2 <;> have A3 := Lib.hid a3 <;> clear a1 a2 a3 <;> first | (exfalso; omega) | clear h
  all_goals
    first | (have t1 : ((c : Int) == 224) = false := by (simp; omega)) | (have t1 : ((c : Int) == 224) = true := by (simp; omega))
    first | (have t2 : ((c : Int) == 237) = false := by (simp; omega)) | (have t2 : ((c : Int) == 237) = true := by (simp; omega))
    first | (have t3 : ((c : Int) == 240) = false := by (simp; omega)) | (have t3 : ((c : Int) == 240) = true := by (simp; omega))
    first | (have t4 : ((c : Int) == 244) = false := by (simp; omega)) | (have t4 : ((c : Int) == 244) = true := by (simp; omega))
    go_enter Try.func27, Try.ntmps27
    go_wp2_with fail
    with_reducible refine bodyPost_ret (v := .tuple #[.int .i64 (lsOf c), .agg #[.int .u8 (spLo c), .int .u8 (spHi c)]]) (by simp [results, Try.results27, go_sem, A1.out, A2.out, A3.out]) rfl ⟨rfl, ?_⟩
    exact (Below.refl _ _).alloc (Nat.le_refl _) _

theorem lead_call (c : Int) (w : World) (h0 : 0 ≤ c) (h255 : c < 256) (h : (194 ≤ c ∧ c ≤ 223) ∨ (224 < c ∧ c < 240 ∧ c ≠ 237) ∨ (240 < c ∧ c < 244)) :
    Calls Try.prog 27 #[.int .u8 c] w fun e w' => e = .returned (.tuple #[.int .i64 (lsOf c), .agg #[.int .u8 (spLo c), .int .u8 (spHi c)]]) ∧ Below w.heap.size w w' := by
  rcases lead_cases c with ⟨g, a1, a2, a3⟩ | ⟨g1, g2, a1, a2, a3⟩ | ⟨⟨g1, g2⟩, a1, a2, a3⟩ | ⟨⟨g1, g2⟩, a1, a2, a3⟩ | ⟨g1, g2, g3, a1, a2, a3⟩ | ⟨⟨g1, g2⟩, a1, a2, a3⟩ | ⟨g1, g2, a1, a2, a3⟩ | ⟨⟨g1, g2⟩, a1, a2, a3⟩ | ⟨g, a1, a2, a3⟩ <;> have A1 := Lib.hid a1 <;> have A2 := Lib.hid a2 <;> have A3 := Lib.hid a3 <;> clear a1 a2 a3 <;> first | (exfalso; omega) | clear h
  all_goals
    first | (have t1 : ((c : Int) == 224) = false := by (simp; omega)) | (have t1 : ((c : Int) == 224) = true := by (simp; omega))
    first | (have t2 : ((c : Int) == 237) = false := by (simp; omega)) | (have t2 : ((c : Int) == 237) = true := by (simp; omega))
    first | (have t3 : ((c : Int) == 240) = false := by (simp; omega)) | (have t3 : ((c : Int) == 240) = true := by (simp; omega))
    first | (have t4 : ((c : Int) == 244) = false := by (simp; omega)) | (have t4 : ((c : Int) == 244) = true := by (simp; omega))
    go_enter Try.func27, Try.ntmps27
    go_wp2_with fail
    refine (behind_any _).mono ?_
    rintro e w1 ⟨rfl, hb⟩
    have d0 : w1.cell? ⟨w.heap.size, 0, none⟩ = some (.int .u8 0) := by rw [(bcell hb).1 _ _ (by simp)]; simp [go_sem]
    have d1 : w1.cell? ⟨w.heap.size, 1, none⟩ = some (.int .u8 0) := by rw [(bcell hb).1 _ _ (by simp)]; simp [go_sem]
    have f1 : ∀ o, w1.frozen? ⟨w.heap.size, o, none⟩ = false := fun o => by rw [(bcell hb).2 _ _ (by simp)]; simp [go_sem]
    have hbw : Below w.heap.size w w1 := ((Below.refl _ _).alloc (Nat.le_refl _) _).trans (hb.mono (by simp))
    have hz : w.heap.size + 1 ≤ w1.heap.size := by have := hb.size; simpa using this
    clear hb
    go_wp2_with fail
    with_reducible refine bodyPost_ret (v := .tuple #[.int .i64 (lsOf c), .agg #[.int .u8 (spLo c), .int .u8 (spHi c)]]) (by simp [results, Try.results27, go_sem, A1.out, A2.out, A3.out, d0, d1]) rfl ⟨rfl, ?_⟩
    repeat (first | (with_reducible exact hbw) | (with_reducible refine Below.setCell ?_ (by simp) _))

theorem lead_any (c : Int) (w : World) (h0 : 0 ≤ c) (h255 : c < 256) :
    Calls Try.prog 27 #[.int .u8 c] w fun e w' => e = .returned (.tuple #[.int .i64 (lsOf c), .agg #[.int .u8 (spLo c), .int .u8 (spHi c)]]) ∧ Below w.heap.size w w' := by
  by_cases h : (194 ≤ c ∧ c ≤ 223) ∨ (224 < c ∧ c < 240 ∧ c ≠ 237) ∨ (240 < c ∧ c < 244)
  · exact lead_call c w h0 h255 h
  · exact lead_plain c w h0 h255 (by omega)

/-- How many bytes front counts, by the lists' words. -/
def fr (l : List UInt8) : Nat :=
  if lsOf (bt l 0) < 2 then 1
  else if ¬ (1 < l.length ∧ inB (spLo (bt l 0)) (spHi (bt l 0)) (bt l 1) = true) then 1
  else if lsOf (bt l 0) < 3 then 2
  else if ¬ (2 < l.length ∧ inB 128 191 (bt l 2) = true) then 2
  else if lsOf (bt l 0) < 4 then 3
  else if ¬ (3 < l.length ∧ inB 128 191 (bt l 3) = true) then 3 else 4

end Go.Proofs.Ytcdenblejfmkaaa
