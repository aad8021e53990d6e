/- The law UtfPlaces returns true, whatever the numbers and bytes. -/
import Derived.Test.YtcdenblejfmkaaaUtfPlacesP
import Derived.Test.YtcdenblejfmkaaaUtfW
import Derived.Test.YtcdenblejfmkaaaStore
import Derived.Deep.RegionHeld3
import Derived.IntWalk
namespace Go.Proofs.Ytcdenblejfmkaaa
open Go.RowKit Go.Proofs
set_option linter.unusedVariables false

theorem scalar_true (n : Int) (h : scB n = true) (w : World) :
    Calls Try.prog 20 #[.int .i64 n] w fun e w' => e = .returned (.bool true) ∧ w = w' :=
  (scalar_any n w).mono fun _ _ ⟨he, hw⟩ => ⟨by rw [he, h], hw⟩
theorem scalar_true_q (n : Int) (h : scB n = true) (w : World) :
    Calls Try.prog 20 #[.int .i64 n] w fun e w' => e = .returned (.bool true) ∧ w' = w :=
  (scalar_any n w).mono fun _ _ ⟨he, hw⟩ => ⟨by rw [he, h], hw.symm⟩

set_option maxRecDepth 100000 in
set_option maxHeartbeats 4000000 in
theorem places_walk (a0 : Option Addr) (len0 cap0 : Nat) (z0 : List Int) (a1 : Option Addr) (len1 cap1 : Nat) (z1 : List Int) (w : World) (w0 : IsRow .i64 w a0 len0 cap0 z0) (w1 : IsRow .u8 w a1 len1 cap1 z1) :
    Calls Try.prog 5 #[.slice a0 len0 cap0, .slice a1 len1 cap1] w fun e w' => e = .returned (.bool true) ∧ Below w.heap.size w w' := by
  have hle1 := w1.len_le
  have HROW := Lib.hid w0; have HROW1 := Lib.hid w1; clear w0 w1
  by_cases h200 : len1 ≤ 200
  · go_enter Try.func5, Try.ntmps5
    go_wp2_with fail
    refine (known_any _).mono ?_
    rintro e w1 ⟨rfl, hb1⟩
    have HB1 := Lib.hid hb1; have hz1 := hb1.size; clear hb1
    go_wp2_with fail
    refine (bytes_any a0 len0 cap0 z0 a1 len1 cap1 z1 w _ HB1.out HROW.out HROW1.out h200).mono ?_
    rintro e w2 ⟨S, rfl, hS, hb2⟩
    have HB2 := Lib.hid (HB1.out.trans (hb2.mono hz1)); have hz2 := HB2.out.size; clear hb2
    go_wp2_with fail
    refine (decode_any S _ (by omega)).mono ?_
    rintro e w3 ⟨v, u, rfl, hv, hu, hap, hb3⟩
    have hfirst := cut_first S.data.toList
    have hlast := cut_last S.data.toList
    have hcut := fun i => cut_at S.data.toList i 0 (Nat.zero_le _)
    rw [List.drop_zero] at hcut
    have hSl : S.data.toList.length = S.size := rfl
    rw [hSl] at hfirst hlast hcut
    have hnl := scs_length_le S.data.toList
    rw [hSl] at hnl
    have hsc : ∀ i, (scs S.data.toList).length ≤ i ∨ True := fun _ => .inr trivial
    obtain ⟨gu, cu, rfl, _, hgu, _, hcu⟩ := hu.slice (by omega)
    have hlz := hcu (scs S.data.toList).length (by omega)
    have hfz := hcu 0 (by omega)
    rw [hlast] at hlz; rw [hfirst] at hfz
    have hvf : ∃ av cv, v = .slice av (scs S.data.toList).length cv ∧ (scs S.data.toList).length ≤ cv ∧ (0 < (scs S.data.toList).length → ∃ gv, av = some ⟨gv, 0, none⟩ ∧ gv < w3.heap.size ∧ ∀ i, i < (scs S.data.toList).length → w3.cell? ⟨gv, i, none⟩ = some (.int .i64 ((scs S.data.toList).getD i 0))) := by
      rcases hv.form with ⟨h, h0, _⟩ | ⟨g, c, h, _, h3, h4, h5⟩
      · exact ⟨none, 0, by rw [h, h0], by omega, fun h => by omega⟩
      · exact ⟨_, c, h, h4, fun _ => ⟨g, rfl, h3, fun i hi => by have := h5 i hi; rwa [Nat.zero_add] at this⟩⟩
    obtain ⟨av, cv, rfl, hcv, hav⟩ := hvf
    have HB3 := Lib.hid (HB2.out.trans (hb3.mono hz2)); have hz3 := HB3.out.size
    have hN : ∃ N, (scs S.data.toList).length = N := ⟨_, rfl⟩
    obtain ⟨N, hN⟩ := hN
    rw [hN] at hlz hcv hav hnl hcut hcu ⊢
    have HCUT := Lib.hid hcut; have HCU := Lib.hid hcu; have HAV := Lib.hid hav
    clear hv hu hap hb3 hfirst hlast hcut hcu hav hSl hsc hN
    have n0 : (0 : Int) ≤ (N : Int) := Int.natCast_nonneg _
    have nn1 : (N : Int) < ((N + 1 : Nat) : Int) := by omega
    go_wp2_with fail
    go_loopw [8] (fun i wr => ∃ k : Nat, k ≤ N ∧ i = .int .i64 k ∧ Below w3.heap.size w3 wr) (fun i _ => N - (intOf i).toNat)
    case atStart => exact ⟨0, Nat.zero_le _, rfl, Below.refl _ _⟩
    case round =>
      obtain ⟨k, hk, rfl, hbw⟩ := hrel
      have k0 : (0 : Int) ≤ (k : Int) := Int.natCast_nonneg _
      by_cases hlt : k < N
      · obtain ⟨p, hpz, hA, hR, hQ⟩ := HCUT.out k hlt
        obtain ⟨gv, rfl, hgv, hcv2⟩ := HAV.out (by omega)
        have cP := HCU.out k (by omega)
        have cQ := HCU.out (k + 1) (by omega)
        have cR := hcv2 k hlt
        rw [hA] at cP; rw [hQ] at cQ; rw [hR] at cR
        have hn := nx_at S.data.toList p (show p < S.data.toList.length from hpz)
        have hsc := nx_scalar (S.data.toList.drop p)
        have hex := extract_take S p (nx (S.data.toList.drop p)).2
        have hen := enc_nx (S.data.toList.drop p) (drop_ne _ _ hpz)
        obtain ⟨q, hq⟩ : ∃ q, p + (nx (S.data.toList.drop p)).2 = q := ⟨_, rfl⟩
        rw [hq] at cQ hex hn
        have hq1 : p < q := by omega
        have hq4 : q ≤ p + 4 := by omega
        have hqz : q ≤ S.size := hn.2.2
        have hEX : (nx (S.data.toList.drop p)).1 ≠ 65533 → S.extract p q = ⟨(enc [(nx (S.data.toList.drop p)).1]).toArray⟩ := fun h => by
          rw [hex, ← hen h]; simp [enc]
        generalize (nx (S.data.toList.drop p)).1 = r at *
        have HEX := Lib.hid hEX
        have hscr : scB r = true := (scB_iff r).2 hsc
        have HSC := Lib.hid hscr
        have xP : wr.cell? ⟨gu, k, none⟩ = some (.int .i64 (p : Int)) := by rw [(bcell hbw).1 _ _ hgu]; exact cP
        have xQ : wr.cell? ⟨gu, k + 1, none⟩ = some (.int .i64 (q : Int)) := by rw [(bcell hbw).1 _ _ hgu]; exact cQ
        have xR : wr.cell? ⟨gv, k, none⟩ = some (.int .i64 r) := by rw [(bcell hbw).1 _ _ hgv]; exact cR
        have HBW := Lib.hid hbw; have hzw := hbw.size
        clear hA hR hQ cP cQ cR hcv2 hn hsc hex hen hq hEX hscr hbw
        have p0 : (0 : Int) ≤ (p : Int) := Int.natCast_nonneg _
        have q0 : (0 : Int) ≤ (q : Int) := Int.natCast_nonneg _
        have k1 : (k : Int) < (N : Int) := by omega
        have k2 : (k : Int) + 1 < (N : Int) + 1 := by omega
        have k3 : (k : Int) + 1 < ((N + 1 : Nat) : Int) := by omega
        have t1 : decide (q ≤ p) = false := by simp; omega
        have t2 : decide ((q : Int) ≤ (p : Int)) = false := by simp; omega
        have t3 : decide ((p : Int) + 4 < (q : Int)) = false := by simp; omega
        have s1 : (q : Int) ≤ (S.size : Int) := by omega
        have s2 : (p : Int) ≤ (q : Int) := by omega
        by_cases h9 : r = 65533
        · have t9 : (r == 65533) = true := by simpa using h9
          have t10 : (r != 65533) = false := by simpa using h9
          have H9 := Lib.hid h9; clear h9
          go_wp2_with fail
          go_quiet ((go_at_call 20; exact Calls.quiet_of_same (scalar_true_q r HSC.out _)))
          go_wp2_with fail
          exact ⟨⟨k + 1, by omega, by go_num, HBW.out.trans ⟨rfl, rfl, rfl, Nat.le_refl _, fun _ _ => rfl⟩⟩, by simp [intOf]; omega⟩
        · have t9 : (r == 65533) = false := by simpa using h9
          have t10 : (r != 65533) = true := by simpa using h9
          have hE := HEX.out h9
          have H9 := Lib.hid h9; clear h9
          have hgv2 : gv < wr.heap.size := Nat.lt_of_lt_of_le hgv hzw
          have hgu2 : gu < wr.heap.size := Nat.lt_of_lt_of_le hgu hzw
          have b1 : (k : Int) < (N : Int) + 1 := by omega
          have b2 : (k : Int) < ((N + 1 : Nat) : Int) := by omega
          have b3 : (0 : Int) ≤ (k : Int) + 1 := by omega
          have b4 : (k : Int) + 1 ≤ (N : Int) := by omega
          have b5 : (k : Int) ≤ (k : Int) + 1 := by omega
          have b6 : (k : Int) + 1 ≤ (cv : Int) := by omega
          have hck : ¬ cv = k := by omega
          have hEnc := fun cap => encode_any [r] 1 cap gv k wr.drew rfl (by omega) hgv2 (fun i hi => by cases i with | zero => exact xR | succ j => omega)
          have v1 : IntKind.i64.wrap ((k : Int) + 1) = (k : Int) + 1 := IntWalk.i64_in _ (by omega)
          have v4 : IntKind.i64.wrap ((p : Int) + 4) = (p : Int) + 4 := IntWalk.i64_in _ (by omega)
          have v3 : ((k : Int) + 1).toNat = k + 1 := by omega
          go_wp2_with fail
          go_region_held3 (fun w' => w'.cell? ⟨gu, k, none⟩ = some (.int .i64 (p : Int)) ∧ w'.cell? ⟨gu, k + 1, none⟩ = some (.int .i64 (q : Int)) ∧ w'.cell? ⟨gv, k, none⟩ = some (.int .i64 r))
            (first | exact ⟨xP, xQ, xR⟩ | exact ⟨yP, yQ, yR⟩)
            (first
              | (go_at_call 20; refine (scalar_true r HSC.out _).mono ?_; rintro e w' ⟨rfl, rfl⟩)
              | (go_at_call 18; (with_reducible refine (hEnc _).mono ?_)
                 rintro e w4 ⟨rfl, hb4⟩
                 have yP : w4.cell? ⟨gu, k, none⟩ = some (.int .i64 (p : Int)) := ((bcell hb4).1 _ _ hgu2).trans xP
                 have yQ : w4.cell? ⟨gu, k + 1, none⟩ = some (.int .i64 (q : Int)) := ((bcell hb4).1 _ _ hgu2).trans xQ
                 have yR : w4.cell? ⟨gv, k, none⟩ = some (.int .i64 r) := ((bcell hb4).1 _ _ hgv2).trans xR
                 have HB4 := Lib.hid (HBW.out.drew.trans (hb4.mono hzw))
                 clear hb4))
          clear v1 v3 v4
          go_wp2_with fail
          exact ⟨⟨k + 1, by omega, by go_num, HB4.out⟩, by simp [intOf]; omega⟩
      · have HBW := Lib.hid hbw; clear hbw
        have d1 : decide ((k : Int) < (N : Int)) = false := by simp; omega
        go_wp2_with fail
        go_ret
        exact ⟨rfl, HB3.out.trans (HBW.out.mono hz3)⟩
  · have h201 : 200 < len1 := by omega
    go_enter Try.func5, Try.ntmps5
    go_wp2_with fail
    refine (known_any _).mono ?_
    rintro e w1 ⟨rfl, hb1⟩
    have HB1 := Lib.hid hb1; clear hb1
    go_wp2_with fail
    go_ret
    exact ⟨rfl, HB1.out⟩

end Go.Proofs.Ytcdenblejfmkaaa
