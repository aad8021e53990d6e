/- The law SetSizes, walked. -/
import Derived.Test.YtkbcepgnjoeneaaSetX
namespace Go.Proofs.Ytkbcepgnjoeneaa
open Go Go.RowKit
set_option linter.unusedVariables false
set_option linter.unusedSimpArgs false

/-- How many numbers the first ranges have. -/
def szT (l : List (Int × Int)) (k : Nat) : Int := sizeS (l.take k)
theorem szT_snoc (l : List (Int × Int)) (k : Nat) (hk : k < l.length) : szT l (k + 1) = szT l k + ((l.getD k (0, 0)).2 - (l.getD k (0, 0)).1 + 1) := by
  unfold szT sizeS
  rw [List.take_succ_eq_append_getElem hk]
  have e : l.getD k (0, 0) = l[k] := by simp [List.getD, List.getElem?_eq_getElem hk]
  rw [e, List.map_append, List.sum_append]; simp
theorem size_of (l : List (Int × Int)) : ∀ lo, RtFrom lo l → 0 ≤ lo → lo ≤ 1114113 → 0 ≤ sizeS l ∧ sizeS l ≤ 1114113 - lo := by
  induction l with
  | nil => intro lo _ h0 h1; simp [sizeS]; omega
  | cons r l ih =>
    intro lo h h0 h1
    obtain ⟨h2, h3, h4, h5⟩ := h
    have := ih (r.2 + 2) h5 (by omega) (by omega)
    simp only [sizeS, List.map_cons, List.sum_cons] at *
    omega
theorem RtFrom.take {l : List (Int × Int)} : ∀ {lo : Int} (k : Nat), RtFrom lo l → RtFrom lo (l.take k) := by
  induction l with
  | nil => intro lo k _; simp [RtFrom]
  | cons r l ih =>
    intro lo k h
    cases k with
    | zero => trivial
    | succ k => exact ⟨h.1, h.2.1, h.2.2.1, ih k h.2.2.2⟩
theorem szT_bd {l : List (Int × Int)} (h : Rt l) (k : Nat) : 0 ≤ szT l k ∧ szT l k ≤ 1114113 := by
  have := size_of (l.take k) 0 (RtFrom.take k h) (by omega) (by omega)
  unfold szT; omega
set_option maxRecDepth 100000 in
set_option maxHeartbeats 8000000 in
theorem setSizes_walk (a0 : Option Addr) (len0 cap0 : Nat) (z0 : List Int) (w : World) (w0 : IsRow .i64 w a0 len0 cap0 z0) :
    Calls Try.prog 10 #[.slice a0 len0 cap0] w fun e w' => e = .returned (.bool true) ∧ Below w.heap.size w w' := by
  have Q0 := Lib.hid w0; clear w0
  obtain ⟨LA, HLA, MA⟩ : ∃ A, Rt A ∧ ∀ w', IsRow .i64 w' a0 len0 cap0 z0 → Calls Try.prog 20 #[.slice a0 len0 cap0] w' (Tells w' A) := ⟨_, mkS_rt z0 len0, fun w' h => make_any h⟩
  replace HLA := Lib.hid HLA; replace MA := Lib.hid MA
  have BB : Hid (Below w.heap.size w w) := Lib.hid (Below.refl _ _)
  go_enter Try.func10, Try.ntmps10
  go_wp2_with fail
  have hq := known_any w
  refine hq.mono ?_
  rintro e W1 ⟨rfl, h2⟩
  clear hq
  replace Q0 := Lib.hid (IsRow.below Q0.out h2)
  replace BB := Lib.hid (BB.out.trans (h2.mono BB.out.size))
  clear h2
  go_wp2_with fail
  have hq := MA.out _ Q0.out
  refine hq.mono ?_
  rintro e W2 ⟨VA, rfl, h1, h2⟩
  clear hq
  replace Q0 := Lib.hid (IsRow.below Q0.out h2)
  replace BB := Lib.hid (BB.out.trans (h2.mono BB.out.size))
  clear h2
  have RA : Hid (ReadsP W2 VA LA.length LA) := Lib.hid h1.reads
  clear h1
  obtain ⟨AdA, CpA, eA, -, -, -⟩ := RA.out.form
  subst eA
  go_wp2_with fail
  obtain ⟨LN, HLN, MN, hq⟩ : ∃ L, Hid (Rt L) ∧ Hid (L = LA) ∧ Calls Try.prog 14 _ _ (Tells _ L) := ⟨_, HLA, Lib.hid rfl, norm_x RA.out HLA.out⟩
  refine hq.mono ?_
  rintro e W3 ⟨VN, rfl, h1, h2⟩
  clear hq
  replace RA := Lib.hid (ReadsP.below RA.out h2)
  replace Q0 := Lib.hid (IsRow.below Q0.out h2)
  replace BB := Lib.hid (BB.out.trans (h2.mono BB.out.size))
  clear h2
  have RN : Hid (ReadsP W3 VN LN.length LN) := Lib.hid h1.reads
  clear h1
  obtain ⟨AdN, CpN, eN, -, -, -⟩ := RN.out.form
  subst eN
  go_wp2_with fail
  obtain ⟨LT, rx, mx, hq⟩ := not_x RA.out HLA.out
  have HLT := Lib.hid rx; have MT := Lib.hid mx; clear rx mx
  refine hq.mono ?_
  rintro e W4 ⟨VT, rfl, h1, h2⟩
  clear hq
  replace RA := Lib.hid (ReadsP.below RA.out h2)
  replace RN := Lib.hid (ReadsP.below RN.out h2)
  replace Q0 := Lib.hid (IsRow.below Q0.out h2)
  replace BB := Lib.hid (BB.out.trans (h2.mono BB.out.size))
  clear h2
  have RT : Hid (ReadsP W4 VT LT.length LT) := Lib.hid h1.reads
  clear h1
  obtain ⟨AdT, CpT, eT, -, -, -⟩ := RT.out.form
  subst eT
  have HSZ := Lib.hid (show sizeS LN + sizeS LT = 1114112 by
    have e : LT = gaps 0 LA := not_is HLA.out HLT.out (fun n h0 h1 => by rw [MT.out n]; unfold InU; exact ⟨fun h => h.2, fun h => ⟨⟨h0, h1⟩, h⟩⟩)
    have := size_gaps LA 0 0 HLA.out (Int.le_refl _) (by omega)
    rw [MN.out, e]; omega)
  have hln := HLN.out.short
  have hlt := HLT.out.short
  go_wp2_with fail
  have c0 : (W4.alloc (.cells #[.slice AdN LN.length CpN, .slice AdT LT.length CpT] 24)).cell? ⟨W4.heap.size, 0, none⟩ = some (.slice AdN LN.length CpN) := (new2 W4 _ _ _).1
  have c1 : (W4.alloc (.cells #[.slice AdN LN.length CpN, .slice AdT LT.length CpT] 24)).cell? ⟨W4.heap.size, 1, none⟩ = some (.slice AdT LT.length CpT) := (new2 W4 _ _ _).2
  have RN2 := Lib.hid (RN.out.alloc (.cells #[.slice AdN LN.length CpN, .slice AdT LT.length CpT] 24))
  have RT2 := Lib.hid (RT.out.alloc (.cells #[.slice AdN LN.length CpN, .slice AdT LT.length CpT] 24))
  replace BB := Lib.hid (BB.out.alloc BB.out.size (.cells #[.slice AdN LN.length CpN, .slice AdT LT.length CpT] 24))
  generalize W4.alloc (.cells #[.slice AdN LN.length CpN, .slice AdT LT.length CpT] 24) = V0 at *
  clear RN RT RA Q0
  generalize W4.heap.size = gb at *
  generalize hN : LN.length = nN at *
  generalize hT : LT.length = nT at *
  have HN := Lib.hid hN; have HT := Lib.hid hT; clear hN hT
  go_loopw [4, 6, 7] (fun t i _ wr => ∃ (j d : Nat) (s : Int), j ≤ 2 ∧ i = .int .i64 j ∧ t = .int .i64 s ∧ Hid (j = 0 → s = 0) ∧ Hid (j = 1 → s = sizeS LN) ∧ Hid (j = 2 → s = 1114112) ∧ 0 ≤ s ∧ s ≤ 1114113 ∧ wr = V0.drewN d) (fun _ i _ _ => 2 - (intOf i).toNat)
  case atStart => exact ⟨0, 0, 0, by omega, rfl, rfl, Lib.hid (fun _ => rfl), Lib.hid (fun h => by omega), Lib.hid (fun h => by omega), by omega, by omega, rfl⟩
  case round =>
    obtain ⟨j, d, s, hj, rfl, rfl, S0, S1, S2, hs0, hs1, rfl⟩ := hrel
    by_cases hj2 : j < 2
    · by_cases hj0 : j = 0
      · subst hj0
        have E0 := Lib.hid (S0.out rfl); clear S0 S1 S2
        go_wp2_with fail
        go_loopw [4, 7] (fun t i wr => ∃ (k d' : Nat) (s' : Int), k ≤ nN ∧ i = .int .i64 k ∧ t = .int .i64 s' ∧ Hid (s' = szT LN k) ∧ wr = V0.drewN d') (fun _ i _ => nN - (intOf i).toNat)
        case atStart => exact ⟨0, d, s, Nat.zero_le _, rfl, rfl, Lib.hid (by rw [E0.out]; rfl), rfl⟩
        case round =>
          obtain ⟨k, d', s', hk, rfl, rfl, HS, rfl⟩ := hrel
          have hb := szT_bd HLN.out k
          rw [← HS.out] at hb
          by_cases hkl : k < nN
          · obtain ⟨b, off, rfl, hbl, x1, x2⟩ := RN2.out.at k hkl
            have hat := HLN.out.atD k (by rw [HN.out]; exact hkl)
            have HX := Lib.hid (szT_snoc LN k (by rw [HN.out]; exact hkl))
            have hb2 := szT_bd HLN.out (k + 1)
            rw [HX.out, ← HS.out] at hb2
            generalize (LN.getD k (0, 0)).1 = x at *
            generalize (LN.getD k (0, 0)).2 = y at *
            have i0 : (0 : Int) ≤ (k : Int) := Int.natCast_nonneg _
            have i1 : (k : Int) < (nN : Int) := by omega
            obtain ⟨p1, p2, p3⟩ := hat
            obtain ⟨b1, b2⟩ := hb
            obtain ⟨b3, b4⟩ := hb2
            have y1 : IntKind.i64.wrap (s' + y) = s' + y := IntWalk.i64_in _ (by omega)
            have y2 : IntKind.i64.wrap (s' + y - x) = s' + y - x := IntWalk.i64_in _ (by omega)
            have y3 : IntKind.i64.wrap (s' + y - x + 1) = s' + y - x + 1 := IntWalk.i64_in _ (by omega)
            go_wp2_with fail
            go_quiet (fail)
            go_wp2_with fail
            exact ⟨⟨k + 1, _, s' + y - x + 1, by omega, by go_num, rfl, Lib.hid (by rw [HX.out, ← HS.out]; omega), rfl⟩, by simp [intOf]; omega⟩
          · obtain rfl : k = nN := by omega
            have E1 := Lib.hid (show s' = sizeS LN by rw [HS.out]; unfold szT; rw [List.take_of_length_le (by rw [HN.out]; exact Nat.le_refl _)])
            obtain ⟨b1, b2⟩ := hb
            go_wp2_with fail
            exact ⟨⟨1, _, s', by omega, rfl, rfl, Lib.hid (fun h => by omega), Lib.hid (fun _ => E1.out), Lib.hid (fun h => by omega), b1, b2, rfl⟩, by simp [intOf]⟩
      · obtain rfl : j = 1 := by omega
        have E0 := Lib.hid (S1.out rfl); clear S0 S1 S2
        go_wp2_with fail
        go_loopw [4, 7] (fun t i wr => ∃ (k d' : Nat) (s' : Int), k ≤ nT ∧ i = .int .i64 k ∧ t = .int .i64 s' ∧ Hid (s' = sizeS LN + szT LT k) ∧ wr = V0.drewN d') (fun _ i _ => nT - (intOf i).toNat)
        case atStart => exact ⟨0, d, s, Nat.zero_le _, rfl, rfl, Lib.hid (by rw [E0.out]; show _ = sizeS LN + 0; omega), rfl⟩
        case round =>
          obtain ⟨k, d', s', hk, rfl, rfl, HS, rfl⟩ := hrel
          have hb := szT_bd HLT.out k
          have hb0 := size_of LN 0 HLN.out (by omega) (by omega)
          have hs9 : s' = sizeS LN + szT LT k := HS.out
          by_cases hkl : k < nT
          · obtain ⟨b, off, rfl, hbl, x1, x2⟩ := RT2.out.at k hkl
            have hat := HLT.out.atD k (by rw [HT.out]; exact hkl)
            have HX := Lib.hid (szT_snoc LT k (by rw [HT.out]; exact hkl))
            have b1 : 0 ≤ s' := by omega
            have b2 : s' ≤ 2228226 := by omega
            clear hs9 hb hb0
            generalize (LT.getD k (0, 0)).1 = x at *
            generalize (LT.getD k (0, 0)).2 = y at *
            have i0 : (0 : Int) ≤ (k : Int) := Int.natCast_nonneg _
            have i1 : (k : Int) < (nT : Int) := by omega
            obtain ⟨p1, p2, p3⟩ := hat
            have y1 : IntKind.i64.wrap (s' + y) = s' + y := IntWalk.i64_in _ (by omega)
            have y2 : IntKind.i64.wrap (s' + y - x) = s' + y - x := IntWalk.i64_in _ (by omega)
            have y3 : IntKind.i64.wrap (s' + y - x + 1) = s' + y - x + 1 := IntWalk.i64_in _ (by omega)
            go_wp2_with fail
            go_quiet (fail)
            go_wp2_with fail
            exact ⟨⟨k + 1, _, s' + y - x + 1, by omega, by go_num, rfl, Lib.hid (by rw [HX.out]; have := HS.out; omega), rfl⟩, by simp [intOf]; omega⟩
          · obtain rfl : k = nT := by omega
            have E1 := Lib.hid (show s' = 1114112 by rw [HS.out]; unfold szT; rw [List.take_of_length_le (by rw [HT.out]; exact Nat.le_refl _)]; exact HSZ.out)
            clear hs9 hb hb0
            have b1 : 0 ≤ s' := by have := E1.out; omega
            have b2 : s' ≤ 1114113 := by have := E1.out; omega
            go_wp2_with fail
            exact ⟨⟨2, _, s', by omega, rfl, rfl, Lib.hid (fun h => by omega), Lib.hid (fun h => by omega), Lib.hid (fun _ => E1.out), b1, b2, rfl⟩, by simp [intOf]⟩
    · obtain rfl : j = 2 := by omega
      have E0 := Lib.hid (S2.out rfl); clear S0 S1 S2
      have hs : s = 1114112 := E0.out
      clear hs0 hs1 E0
      subst hs
      go_wp2_with fail
      go_ret
      exact ⟨rfl, BB.out.drewN' _⟩

end Go.Proofs.Ytkbcepgnjoeneaa
