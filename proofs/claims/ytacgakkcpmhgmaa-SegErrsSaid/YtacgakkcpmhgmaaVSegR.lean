/- Laws of chapter 13: the reference's Letter; a table's rows, by their cells. -/
import Derived.Test.YtacgakkcpmhgmaaVSegQ
set_option linter.unusedVariables false
set_option linter.unusedSimpArgs false
set_option maxHeartbeats 1000000
namespace Go.Proofs.Ytacgakkcpmhgmaa
open Go Go.RowKit Go.Proofs
theorem srlet_any {w : World} {v u : Value} {m k : Nat} {c l : List Int} {x : Int} (h : ReadsI w v m c) (h' : ReadsI w u m l) (hm : m <= 1000000000) (hkm : k < m) (h1 : ∀ t, t < k + 1 -> c.getD t 0 <= x) (h2 : ∀ t, k + 1 <= t -> t < m -> x < c.getD t 0) :
  Calls Try.prog 41 #[v, u, .int .i64 x] w fun e w' => e = .returned (.int .i64 (l.getD k 0)) /\ w = w' := by
  obtain ⟨a, cap, rfl, -, -, -⟩ := h.form
  obtain ⟨a', cap', rfl, -, -, -⟩ := h'.form
  obtain ⟨b', off', rfl, hbl', d1⟩ := h'.at k hkm
  have H := Lib.hid h; have H1 := Lib.hid h1; have H2 := Lib.hid h2
  clear h h' h1 h2
  generalize l.getD k 0 = z at *
  go_enter Try.func41, Try.ntmps41
  go_wp2_with fail
  go_loop [7] (fun i => ∃ (j : Nat), j <= k /\ i = .int .i64 j) (fun i => k - (intOf i).toNat)
  case atStart => exact ⟨0, Nat.zero_le _, rfl⟩
  case round =>
   obtain ⟨j, hj, rfl⟩ := hrel
   have i0 : (0 : Int) <= (j : Int) := Int.natCast_nonneg _
   by_cases hlt : j < k
   ·have i1 : (j : Int) + 1 < (m : Int) := by omega
    obtain ⟨b, off, rfl, hbl, c1⟩ := H.out.at (j + 1) (by omega)
    have hle := H1.out (j + 1) (by omega)
    generalize c.getD (j + 1) 0 = y at *
    have e1 : ((j : Int) + 1).toNat = j + 1 := by omega
    go_wp2_with fail
    exact ⟨⟨j + 1, by omega, by go_num⟩, by simp [intOf]; omega⟩
   ·obtain rfl : j = k := by omega
    have j1 : (j : Int) < (m : Int) := by omega
    by_cases hlast : j + 1 < m
    ·have i1 : (j : Int) + 1 < (m : Int) := by omega
     obtain ⟨b, off, rfl, hbl, c1⟩ := H.out.at (j + 1) (by omega)
     have hle := H2.out (j + 1) (by omega) hlast
     generalize c.getD (j + 1) 0 = y at *
     have e1 : ((j : Int) + 1).toNat = j + 1 := by omega
     have hno : ¬ y <= x := by omega
     go_wp2_with fail
     go_ret
     exact ⟨rfl, rfl⟩
    ·have i1 : ¬ ((j : Int) + 1 < (m : Int)) := by omega
     go_wp2_with fail
     go_ret
     exact ⟨rfl, rfl⟩
theorem srlet_tab {w : World} {v u : Value} {T : Tab} {x : Int} (h : ReadsI w v T.cuts.length T.cuts) (h' : ReadsI w u T.letters.length T.letters) (hT : RightT T) (hx0 : 0 <= x) (hx : x <= 1114111) :
  Calls Try.prog 41 #[v, u, .int .i64 x] w fun e w' => e = .returned (.int .i64 (lettI T x)) /\ w = w' := by
  obtain ⟨h1, h2⟩ := cutsTo_pos hT hx0
  obtain ⟨s1, s2, s3⟩ := cutsTo_spec T.cuts x hT.rise
  have hl := hT.lets
  have hc := hT.len
  rw [hl] at h'
  refine (srlet_any (k := cutsTo T.cuts x - 1) h h' (by omega) (by omega) (fun t ht => s2 t (by omega)) (fun t ht hm => s3 t (by omega) hm)).mono ?_
  rintro e w' ⟨rfl, hw⟩
  exact ⟨rfl, hw⟩
theorem rows_cells {w : World} {a : Option Addr} {n c : Nat} {T : List (List Int)} (h : RowsI w (.slice a n c) T) (hl : T.length = n) (hn : 0 < n) : ∃ g o, a = some ⟨g, o, none⟩ /\ ∀ i, i < n -> ∃ A m cc, w.cell? ⟨g, o + i, none⟩ = some (.slice A m cc) /\ m = (T.getD i []).length /\ ∀ j, j < m -> ∃ g' o', A = some ⟨g', o', none⟩ /\ w.cell? ⟨g', o' + j, none⟩ = some (.int .i64 ((T.getD i []).getD j 0)) := by
 obtain ⟨g, o, _, _, _, e, -, -, -, -, -⟩ := h.at_ (i := 0) (by omega)
 refine ⟨g, o, e, fun i hi => ?_⟩
 obtain ⟨g', o', A, m, cc, e', hm, hc, hr, -, -⟩ := h.at_ (i := i) (by omega)
 rw [e] at e'
 cases e'
 refine ⟨A, m, cc, hc, hm, fun j hj => ?_⟩
 obtain ⟨g2, o2, e2, -, h2⟩ := hr.at j hj
 exact ⟨g2, o2, e2, h2⟩
theorem emits_cells {w : World} {a : Option Addr} {n c : Nat} {E : List (List V3)} (h : EmitR w (.slice a n c) E) (hl : E.length = n) (hn : 0 < n) : ∃ g o, a = some ⟨g, o, none⟩ /\ ∀ i, i < n -> ∃ A m cc, w.cell? ⟨g, o + i, none⟩ = some (.slice A m cc) /\ m = (E.getD i []).length /\ ∀ j, j < m -> ∃ g' o', A = some ⟨g', o', none⟩ /\ ∀ u, (E.getD i []).getD j (0, 0, 0) = u -> w.cell? ⟨g', o' + j * 3, none⟩ = some (.int .i64 u.1) /\ w.cell? ⟨g', o' + j * 3 + 1, none⟩ = some (.int .i64 u.2.1) /\ w.cell? ⟨g', o' + j * 3 + 2, none⟩ = some (.int .i64 u.2.2) := by
 obtain ⟨g, o, _, _, _, e, -, -, -, -, -⟩ := h.at_ (i := 0) (by omega)
 refine ⟨g, o, e, fun i hi => ?_⟩
 obtain ⟨g', o', A, m, cc, e', hm, hc, hr, -, -⟩ := h.at_ (i := i) (by omega)
 rw [e] at e'
 cases e'
 refine ⟨A, m, cc, hc, hm, fun j hj => ?_⟩
 obtain ⟨g2, o2, e2, -, h2⟩ := hr.at encV_len (by decide) j _ (sgetD_at (d := ((0, 0, 0) : V3)) (by omega))
 refine ⟨g2, o2, e2, fun u hu => ?_⟩
 rw [hu] at h2
 exact ⟨by have := h2 0 _ rfl; rwa [Nat.add_zero] at this, h2 1 _ rfl, h2 2 _ rfl⟩
end Go.Proofs.Ytacgakkcpmhgmaa
