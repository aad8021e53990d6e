/- The law PartWalk, walked. -/
import Derived.Test.YthbnhdocjnhhlaaPartS
import Derived.Deep.RegionHeld3
namespace Go.Proofs.Ythbnhdocjnhhlaa
open Go Go.RowKit
set_option linter.unusedVariables false
set_option linter.unusedSimpArgs false

theorem within4_q {W : World} {q : Nat} {x n : Int} (hn : 0 < n) (hn2 : n ≤ 1099511627776) :
    Calls Try.prog 20 #[.int .i64 x, .int .i64 n] (W.drewN q) fun e w'' => e = .returned (.int .i64 (wth x n)) ∧ ∃ m, w'' = W.drewN m := (within4_any x n hn hn2 _).mono fun _ _ h => ⟨h.1, q, h.2.symm⟩
/-- From a cut on up to the next one there is one letter. -/
theorem cut_letter {ss : List (List (Int × Int))} (h : RtAll ss) (k : Nat) (hk : k < (cutsL ss).length) (x : Int) (h1 : (cutsL ss).getD k 0 ≤ x) (h2 : ∀ t, k < t → t < (cutsL ss).length → x < (cutsL ss).getD t 0) (h3 : x ≤ 1114111) : InN x ∧ (letsL ss).getD k 0 = (letOf ss x : Nat) := by
  have e0 : (cutsL ss).getD k 0 ∈ cutsL ss := by simp [List.getD, List.getElem?_eq_getElem hk]
  have hb := cutsL_bd h _ e0
  obtain ⟨j, _, j1, j2, j3, j4⟩ := cut_of h x (by omega) h3
  have hjk : j = k := by
    rcases Nat.lt_or_ge j k with g | g
    · have := j3 k g hk; omega
    · rcases Nat.lt_or_ge k j with g' | g'
      · have := h2 j g' j1; omega
      · omega
  subst hjk
  refine ⟨⟨by omega, h3⟩, ?_⟩
  rw [letsL_at ss j hk]
  unfold letOf
  rw [j4]
theorem cutsL_first {ss : List (List (Int × Int))} (h : RtAll ss) : 0 < (cutsL ss).length ∧ (cutsL ss).getD 0 0 = 0 := by
  obtain ⟨i, hi, e⟩ := List.getElem_of_mem (cutsL_zero h)
  have hl : 0 < (cutsL ss).length := by omega
  refine ⟨hl, ?_⟩
  have e0 : (cutsL ss).getD 0 0 = (cutsL ss)[0] := by simp [List.getD, List.getElem?_eq_getElem hl]
  have hb := cutsL_bd h ((cutsL ss).getD 0 0) (by rw [e0]; exact List.getElem_mem _)
  by_cases hi0 : i = 0
  · subst hi0; rw [e0, e]
  · have := rising_lt (cutsL_is h).1 (show 0 < i by omega) hi
    have e1 : (cutsL ss).getD i 0 = (cutsL ss)[i] := by simp [List.getD, List.getElem?_eq_getElem hi]
    rw [e1, e] at this
    omega

set_option maxRecDepth 100000 in
set_option maxHeartbeats 8000000 in
theorem partWalk_walk (a0 : Option Addr) (len0 cap0 : Nat) (z0 : List Int) (a1 : Int) (w : World) (w0 : IsRow .i64 w a0 len0 cap0 z0) (w1 : (Lit.int .i64 a1).wf = true) :
    Calls Try.prog 10 #[.slice a0 len0 cap0, .int .i64 a1] w fun e w' => e = .returned (.bool true) ∧ Below w.heap.size w w' := by
  have Q0 := Lib.hid w0; clear w0 w1
  go_enter Try.func10, Try.ntmps10
  go_wp2_with fail
  refine (known4_any w).mono ?_
  rintro e W1 ⟨rfl, h2⟩
  replace Q0 := Lib.hid (IsRow.below Q0.out h2)
  have BB := Lib.hid h2
  clear h2
  go_wp2_with fail
  refine (sets_x (mo := 12) Q0.out (by omega)).mono ?_
  rintro e W2 ⟨v, n, ss, rfl, hr, hn, h1, h2⟩
  have HR := Lib.hid hr
  have RS := Lib.hid h1.readsL
  have HL := Lib.hid h1.readsL.1
  have OS := Lib.hid h1
  obtain ⟨av, cv, rfl⟩ := h1.slice
  replace BB := Lib.hid (BB.out.trans (h2.mono BB.out.size))
  clear h1 h2 hr Q0
  clear OS
  go_wp2_with fail
  refine (cuts_x RS.out HR.out (by omega)).mono ?_
  rintro e W3 ⟨ma, aca, cca, ala, cla, rfl, hma, r1, r2, h3⟩
  have RCa := Lib.hid r1; have RLa := Lib.hid r2
  replace BB := Lib.hid (BB.out.trans (h3.mono BB.out.size))
  clear r1 r2 h3
  obtain ⟨hm0, hc00⟩ := cutsL_first HR.out
  have hlm := RCa.out.1
  rw [hlm] at hm0
  obtain ⟨b0, off0, e0, -, c0⟩ := RCa.out.at 0 hm0
  rw [hc00, Nat.add_zero] at c0
  subst e0
  have HRG : Hid (∀ k, k < ma → (∀ x, (cutsL ss).getD k 0 ≤ x → (∀ t, k < t → t < ma → x < (cutsL ss).getD t 0) → x ≤ 1114111 → InN x ∧ (letsL ss).getD k 0 = (letOf ss x : Nat))) := Lib.hid (fun k hk x h1 h2 h3 => cut_letter HR.out k (by rw [hlm]; exact hk) x h1 (fun t ht hl => h2 t ht (by rw [← hlm]; exact hl)) h3)
  have HRI : Hid (∀ k t, k < t → t < ma → (cutsL ss).getD k 0 < (cutsL ss).getD t 0) := Lib.hid (fun k t hkt ht => rising_lt (cutsL_is HR.out).1 hkt (by rw [hlm]; exact ht))
  have HBD : Hid (∀ k, k < ma → InN ((cutsL ss).getD k 0)) := Lib.hid (fun k hk => by
    have hk' : k < (cutsL ss).length := by rw [hlm]; exact hk
    have e : (cutsL ss).getD k 0 ∈ cutsL ss := by simp [List.getD, List.getElem?_eq_getElem hk']
    exact cutsL_bd HR.out _ e)
  clear hlm hc00
  have n0 : ((ma : Int) == 0) = false := by simp; omega
  have n1 : ¬ (ma : Int) = 0 := by omega
  have n2 : (0 : Int) < (ma : Int) := by omega
  have n3 : decide (0 < ma) = true := by simpa using hm0
  go_wp2_with fail
  clear c0 n0 n1 n2 n3
  obtain ⟨W, hW⟩ : ∃ W, W = W3 := ⟨_, rfl⟩
  rw [← hW] at RCa RLa BB ⊢
  clear hW
  go_loopw [7] (fun i wr => ∃ (k : Nat), k ≤ ma ∧ i = .int .i64 k ∧ Hid (Below W.heap.size W wr)) (fun i _ => ma - (intOf i).toNat)
  case atStart => exact ⟨0, Nat.zero_le _, rfl, Lib.hid (Below.refl _ _)⟩
  case round =>
    obtain ⟨k, hk, rfl, HB⟩ := hrel
    have i0 : (0 : Int) ≤ (k : Int) := Int.natCast_nonneg _
    by_cases hlt : k < ma
    · have i1 : (k : Int) < (ma : Int) := by omega
      have t1 : decide (k < ma) = true := by simpa using hlt
      have RC := Lib.hid (RCa.out.below HB.out)
      have RL := Lib.hid (RLa.out.below HB.out)
      obtain ⟨b2, off2, e2, hb2, c2⟩ := RL.out.at k hlt
      obtain ⟨b1, off1, e1, hb1, c1⟩ := RC.out.at k hlt
      simp only [Option.some.injEq, Addr.mk.injEq, and_true] at e1
      obtain ⟨rfl, rfl⟩ := e1
      subst e2
      have hin := HBD.out k hlt
      by_cases hk1 : k + 1 < ma
      · have k1 : (k : Int) + 1 < (ma : Int) := by omega
        have k2 : ((k : Int) + 1).toNat = k + 1 := by omega
        have k3 : 0 ≤ (k : Int) + 1 := by omega
        obtain ⟨b3, off3, e3, -, c3⟩ := RC.out.at (k + 1) hk1
        simp only [Option.some.injEq, Addr.mk.injEq, and_true] at e3
        obtain ⟨rfl, rfl⟩ := e3
        have hin2 := HBD.out (k + 1) hk1
        have hstep := HRI.out k (k + 1) (by omega) hk1
        have HNX : Hid (∀ x, x ≤ (cutsL ss).getD (k + 1) 0 - 1 → ∀ t, k < t → t < ma → x < (cutsL ss).getD t 0) := Lib.hid (fun x hx t h1 h2 => by
          by_cases e : t = k + 1
          · rw [e]; omega
          · have := HRI.out (k + 1) t (by omega) h2; omega)
        have HPP : Hid (∀ x, (cutsL ss).getD k 0 ≤ x → x ≤ (cutsL ss).getD (k + 1) 0 - 1 → InN x ∧ (letsL ss).getD k 0 = (letOf ss x : Nat)) := Lib.hid (fun x h1 h2 => HRG.out k hlt x h1 (HNX.out x h2) (by have := hin2.2; omega))
        clear HNX
        generalize hcn : (cutsL ss).getD (k + 1) 0 = cn at *
        clear hcn
        have hEE : cn - 1 ≤ 1114111 := by have := hin2.2; omega
        have hE0 : (cutsL ss).getD k 0 ≤ cn - 1 := by omega
        clear hstep hin2
        obtain ⟨p, hp⟩ : ∃ p : Nat, (letsL ss).getD k 0 = (p : Int) := ⟨_, (HPP.out _ (Int.le_refl _) hE0).2⟩
        have HLE : Hid (∀ x, (cutsL ss).getD k 0 ≤ x → x ≤ (cn - 1) → InN x ∧ letOf ss x = p) := Lib.hid (fun x h1 h2 => ⟨(HPP.out x h1 h2).1, by have := (HPP.out x h1 h2).2; rw [hp] at this; omega⟩)
        rw [hp] at c2
        clear hp HPP
        have hin1 := hin.1
        clear hin
        generalize (cutsL ss).getD k 0 = ck at *
        have HPL : Hid (∀ (W' : World) (x : Int), ck ≤ x → x ≤ (cn - 1) → ReadsI W' (.slice (some ⟨b0, off0, none⟩) ma cca) ma (cutsL ss) → ReadsI W' (.slice (some ⟨b2, off2, none⟩) ma cla) ma (letsL ss) → Calls Try.prog 21 #[.slice (some ⟨b0, off0, none⟩) ma cca, .slice (some ⟨b2, off2, none⟩) ma cla, .int .i64 x] W' (SaysI W' (p : Nat))) := Lib.hid (fun W' x h1 h2 r1 r2 => by
          have := plet_x HR.out r1 r2 (by omega) (HLE.out x h1 h2).1
          rw [(HLE.out x h1 h2).2] at this
          exact this)
        have HRL : Hid (∀ (W' : World) (x : Int), ck ≤ x → x ≤ (cn - 1) → ReadsI W' (.slice (some ⟨b0, off0, none⟩) ma cca) ma (cutsL ss) → ReadsI W' (.slice (some ⟨b2, off2, none⟩) ma cla) ma (letsL ss) → Calls Try.prog 22 #[.slice (some ⟨b0, off0, none⟩) ma cca, .slice (some ⟨b2, off2, none⟩) ma cla, .int .i64 x] W' fun e w' => e = .returned (.int .i64 (p : Nat)) ∧ W' = w') := Lib.hid (fun W' x h1 h2 r1 r2 => by
          have := rlet_x HR.out r1 r2 (by omega) (HLE.out x h1 h2).1
          rw [(HLE.out x h1 h2).2] at this
          exact this)
        have hno : ¬ (cn - 1) < ck := by omega
        have hN0 : 0 < (cn - 1) - ck + 1 := by omega
        have hN1 : (cn - 1) - ck + 1 ≤ 1099511627776 := by omega
        have hww := wth_bd a1 ((cn - 1) - ck + 1) hN0
        have hk0 : ck ≤ ck + wth a1 ((cn - 1) - ck + 1) := by omega
        have hk9 : ck + wth a1 ((cn - 1) - ck + 1) ≤ (cn - 1) := by omega
        obtain ⟨hww1, hww2⟩ := hww
        have hm1 : k + 1 ≤ ma := by omega
        have v1 : IntKind.i64.wrap ((cn - 1) - ck) = (cn - 1) - ck := IntWalk.i64_in _ (by omega)
        have v2 : IntKind.i64.wrap ((cn - 1) - ck + 1) = (cn - 1) - ck + 1 := IntWalk.i64_in _ (by omega)
        have v3 : IntKind.i64.wrap (ck + wth a1 ((cn - 1) - ck + 1)) = ck + wth a1 ((cn - 1) - ck + 1) := IntWalk.i64_in _ (by omega)
        go_wp2_with fail
        go_quiet ((exact within4_q hN0 hN1))
        clear v1 v2
        go_wp2_with fail
        generalize (ck + wth a1 ((cn - 1) - ck + 1)) = kk at *
        clear v3
        have c1 : (wr.drewN nq).cell? ⟨b0, off0 + k, none⟩ = some (.int .i64 ck) := c1
        have c2 : (wr.drewN nq).cell? ⟨b2, off2 + k, none⟩ = some (.int .i64 (p : Int)) := c2
        have RC4 := Lib.hid (RC.out.drewN nq)
        have RL4 := Lib.hid (RL.out.drewN nq)
        have HB4 := Lib.hid (Below.drewN' HB.out nq)
        have hb1 : b0 < (wr.drewN nq).heap.size := hb1
        have hb2 : b2 < (wr.drewN nq).heap.size := hb2
        clear RC RL HB
        generalize wr.drewN nq = W4 at *
        have d1 : W4.drew.cell? ⟨b0, off0 + k, none⟩ = some (.int .i64 ck) := c1
        have d2 : W4.drew.cell? ⟨b2, off2 + k, none⟩ = some (.int .i64 (p : Int)) := c2
        have hP1 := HPL.out W4.drew ck (Int.le_refl _) hE0 RC4.out RL4.out
        have HP1 := Lib.hid hP1
        have hzW : W.heap.size ≤ W4.heap.size := HB4.out.size
        have HB4d : Hid (Below W.heap.size W W4.drew) := Lib.hid ⟨HB4.out.1, HB4.out.2, HB4.out.3, HB4.out.4, HB4.out.5⟩
        have hb1d : b0 < W4.drew.heap.size := hb1
        have hb2d : b2 < W4.drew.heap.size := hb2
        have pp : ((p : Int) != (p : Int)) = false := by simp
        clear hP1 c1 c2
        go_region_held3 (fun w' => w'.cell? ⟨b0, off0 + k, none⟩ = some (.int .i64 ck) ∧ w'.cell? ⟨b2, off2 + k, none⟩ = some (.int .i64 (p : Int)))
          (first | exact ⟨d1, d2⟩ | exact ⟨f1, f2⟩ | exact ⟨g1, g2⟩ | exact ⟨q1, q2⟩)
          (first
            | (go_at_call 21; (with_reducible refine (HP1.out).mono ?_)
               rintro e w5 ⟨rfl, h5⟩
               have f1 := (h5.cell (p := ⟨b0, off0 + k, none⟩) hb1d).trans d1
               have f2 := (h5.cell (p := ⟨b2, off2 + k, none⟩) hb2d).trans d2
               have RC5 := Lib.hid (ReadsI.below (show ReadsI W4.drew _ _ _ from RC4.out) h5)
               have RL5 := Lib.hid (ReadsI.below (show ReadsI W4.drew _ _ _ from RL4.out) h5)
               have HB5 := Lib.hid (HB4d.out.trans (h5.mono hzW))
               have HP2 := Lib.hid (HPL.out w5 (cn - 1) hE0 (Int.le_refl _) RC5.out RL5.out)
               have hz5 : b0 < w5.heap.size ∧ b2 < w5.heap.size := ⟨Nat.lt_of_lt_of_le hb1d h5.size, Nat.lt_of_lt_of_le hb2d h5.size⟩
               have hzz5 : W.heap.size ≤ w5.heap.size := HB5.out.size
               clear h5)
            | (go_at_call 21; (with_reducible refine (HP2.out).mono ?_)
               rintro e w6 ⟨rfl, h6⟩
               have g1 := (h6.cell (p := ⟨b0, off0 + k, none⟩) hz5.1).trans f1
               have g2 := (h6.cell (p := ⟨b2, off2 + k, none⟩) hz5.2).trans f2
               have RC6 := Lib.hid (RC5.out.below h6)
               have RL6 := Lib.hid (RL5.out.below h6)
               have HB6 := Lib.hid (HB5.out.trans (h6.mono hzz5))
               have HP3 := Lib.hid (HPL.out w6 kk hk0 hk9 RC6.out RL6.out)
               have hz6 : b0 < w6.heap.size ∧ b2 < w6.heap.size := ⟨Nat.lt_of_lt_of_le hz5.1 h6.size, Nat.lt_of_lt_of_le hz5.2 h6.size⟩
               have hzz6 : W.heap.size ≤ w6.heap.size := HB6.out.size
               clear h6)
            | (go_at_call 21; (with_reducible refine (HP3.out).mono ?_)
               rintro e w7 ⟨rfl, h7⟩
               have q1 := (h7.cell (p := ⟨b0, off0 + k, none⟩) hz6.1).trans g1
               have q2 := (h7.cell (p := ⟨b2, off2 + k, none⟩) hz6.2).trans g2
               have HB7 := Lib.hid (HB6.out.trans (h7.mono hzz6))
               have HP4 := Lib.hid (HRL.out w7 kk hk0 hk9 (RC6.out.below h7) (RL6.out.below h7))
               clear h7)
            | (go_at_call 22; (with_reducible refine (HP4.out).mono ?_); rintro e w8 ⟨rfl, rfl⟩))
        go_wp2_with fail
        exact ⟨⟨k + 1, hm1, by go_num, HB7⟩, by simp [intOf]; omega⟩
      · have k1 : ¬ (k : Int) + 1 < (ma : Int) := by omega
        have HPP : Hid (∀ x, (cutsL ss).getD k 0 ≤ x → x ≤ 1114111 → InN x ∧ (letsL ss).getD k 0 = (letOf ss x : Nat)) := Lib.hid (fun x h1 h2 => HRG.out k hlt x h1 (fun t h3 h4 => by omega) h2)
        have hEE : (1114111 : Int) ≤ 1114111 := Int.le_refl _
        have hE0 : (cutsL ss).getD k 0 ≤ 1114111 := hin.2
        obtain ⟨p, hp⟩ : ∃ p : Nat, (letsL ss).getD k 0 = (p : Int) := ⟨_, (HPP.out _ (Int.le_refl _) hE0).2⟩
        have HLE : Hid (∀ x, (cutsL ss).getD k 0 ≤ x → x ≤ 1114111 → InN x ∧ letOf ss x = p) := Lib.hid (fun x h1 h2 => ⟨(HPP.out x h1 h2).1, by have := (HPP.out x h1 h2).2; rw [hp] at this; omega⟩)
        rw [hp] at c2
        clear hp HPP
        have hin1 := hin.1
        clear hin
        generalize (cutsL ss).getD k 0 = ck at *
        have HPL : Hid (∀ (W' : World) (x : Int), ck ≤ x → x ≤ 1114111 → ReadsI W' (.slice (some ⟨b0, off0, none⟩) ma cca) ma (cutsL ss) → ReadsI W' (.slice (some ⟨b2, off2, none⟩) ma cla) ma (letsL ss) → Calls Try.prog 21 #[.slice (some ⟨b0, off0, none⟩) ma cca, .slice (some ⟨b2, off2, none⟩) ma cla, .int .i64 x] W' (SaysI W' (p : Nat))) := Lib.hid (fun W' x h1 h2 r1 r2 => by
          have := plet_x HR.out r1 r2 (by omega) (HLE.out x h1 h2).1
          rw [(HLE.out x h1 h2).2] at this
          exact this)
        have HRL : Hid (∀ (W' : World) (x : Int), ck ≤ x → x ≤ 1114111 → ReadsI W' (.slice (some ⟨b0, off0, none⟩) ma cca) ma (cutsL ss) → ReadsI W' (.slice (some ⟨b2, off2, none⟩) ma cla) ma (letsL ss) → Calls Try.prog 22 #[.slice (some ⟨b0, off0, none⟩) ma cca, .slice (some ⟨b2, off2, none⟩) ma cla, .int .i64 x] W' fun e w' => e = .returned (.int .i64 (p : Nat)) ∧ W' = w') := Lib.hid (fun W' x h1 h2 r1 r2 => by
          have := rlet_x HR.out r1 r2 (by omega) (HLE.out x h1 h2).1
          rw [(HLE.out x h1 h2).2] at this
          exact this)
        have hno : ¬ 1114111 < ck := by omega
        have hN0 : 0 < 1114111 - ck + 1 := by omega
        have hN1 : 1114111 - ck + 1 ≤ 1099511627776 := by omega
        have hww := wth_bd a1 (1114111 - ck + 1) hN0
        have hk0 : ck ≤ ck + wth a1 (1114111 - ck + 1) := by omega
        have hk9 : ck + wth a1 (1114111 - ck + 1) ≤ 1114111 := by omega
        obtain ⟨hww1, hww2⟩ := hww
        have hm1 : k + 1 ≤ ma := by omega
        have v1 : IntKind.i64.wrap (1114111 - ck) = 1114111 - ck := IntWalk.i64_in _ (by omega)
        have v2 : IntKind.i64.wrap (1114111 - ck + 1) = 1114111 - ck + 1 := IntWalk.i64_in _ (by omega)
        have v3 : IntKind.i64.wrap (ck + wth a1 (1114111 - ck + 1)) = ck + wth a1 (1114111 - ck + 1) := IntWalk.i64_in _ (by omega)
        go_wp2_with fail
        go_quiet ((exact within4_q hN0 hN1))
        clear v1 v2
        go_wp2_with fail
        generalize (ck + wth a1 (1114111 - ck + 1)) = kk at *
        clear v3
        have c1 : (wr.drewN nq).cell? ⟨b0, off0 + k, none⟩ = some (.int .i64 ck) := c1
        have c2 : (wr.drewN nq).cell? ⟨b2, off2 + k, none⟩ = some (.int .i64 (p : Int)) := c2
        have RC4 := Lib.hid (RC.out.drewN nq)
        have RL4 := Lib.hid (RL.out.drewN nq)
        have HB4 := Lib.hid (Below.drewN' HB.out nq)
        have hb1 : b0 < (wr.drewN nq).heap.size := hb1
        have hb2 : b2 < (wr.drewN nq).heap.size := hb2
        clear RC RL HB
        generalize wr.drewN nq = W4 at *
        have d1 : W4.drew.cell? ⟨b0, off0 + k, none⟩ = some (.int .i64 ck) := c1
        have d2 : W4.drew.cell? ⟨b2, off2 + k, none⟩ = some (.int .i64 (p : Int)) := c2
        have hP1 := HPL.out W4.drew ck (Int.le_refl _) hE0 RC4.out RL4.out
        have HP1 := Lib.hid hP1
        have hzW : W.heap.size ≤ W4.heap.size := HB4.out.size
        have HB4d : Hid (Below W.heap.size W W4.drew) := Lib.hid ⟨HB4.out.1, HB4.out.2, HB4.out.3, HB4.out.4, HB4.out.5⟩
        have hb1d : b0 < W4.drew.heap.size := hb1
        have hb2d : b2 < W4.drew.heap.size := hb2
        have pp : ((p : Int) != (p : Int)) = false := by simp
        clear hP1 c1 c2
        go_region_held3 (fun w' => w'.cell? ⟨b0, off0 + k, none⟩ = some (.int .i64 ck) ∧ w'.cell? ⟨b2, off2 + k, none⟩ = some (.int .i64 (p : Int)))
          (first | exact ⟨d1, d2⟩ | exact ⟨f1, f2⟩ | exact ⟨g1, g2⟩ | exact ⟨q1, q2⟩)
          (first
            | (go_at_call 21; (with_reducible refine (HP1.out).mono ?_)
               rintro e w5 ⟨rfl, h5⟩
               have f1 := (h5.cell (p := ⟨b0, off0 + k, none⟩) hb1d).trans d1
               have f2 := (h5.cell (p := ⟨b2, off2 + k, none⟩) hb2d).trans d2
               have RC5 := Lib.hid (ReadsI.below (show ReadsI W4.drew _ _ _ from RC4.out) h5)
               have RL5 := Lib.hid (ReadsI.below (show ReadsI W4.drew _ _ _ from RL4.out) h5)
               have HB5 := Lib.hid (HB4d.out.trans (h5.mono hzW))
               have HP2 := Lib.hid (HPL.out w5 1114111 hE0 (Int.le_refl _) RC5.out RL5.out)
               have hz5 : b0 < w5.heap.size ∧ b2 < w5.heap.size := ⟨Nat.lt_of_lt_of_le hb1d h5.size, Nat.lt_of_lt_of_le hb2d h5.size⟩
               have hzz5 : W.heap.size ≤ w5.heap.size := HB5.out.size
               clear h5)
            | (go_at_call 21; (with_reducible refine (HP2.out).mono ?_)
               rintro e w6 ⟨rfl, h6⟩
               have g1 := (h6.cell (p := ⟨b0, off0 + k, none⟩) hz5.1).trans f1
               have g2 := (h6.cell (p := ⟨b2, off2 + k, none⟩) hz5.2).trans f2
               have RC6 := Lib.hid (RC5.out.below h6)
               have RL6 := Lib.hid (RL5.out.below h6)
               have HB6 := Lib.hid (HB5.out.trans (h6.mono hzz5))
               have HP3 := Lib.hid (HPL.out w6 kk hk0 hk9 RC6.out RL6.out)
               have hz6 : b0 < w6.heap.size ∧ b2 < w6.heap.size := ⟨Nat.lt_of_lt_of_le hz5.1 h6.size, Nat.lt_of_lt_of_le hz5.2 h6.size⟩
               have hzz6 : W.heap.size ≤ w6.heap.size := HB6.out.size
               clear h6)
            | (go_at_call 21; (with_reducible refine (HP3.out).mono ?_)
               rintro e w7 ⟨rfl, h7⟩
               have q1 := (h7.cell (p := ⟨b0, off0 + k, none⟩) hz6.1).trans g1
               have q2 := (h7.cell (p := ⟨b2, off2 + k, none⟩) hz6.2).trans g2
               have HB7 := Lib.hid (HB6.out.trans (h7.mono hzz6))
               have HP4 := Lib.hid (HRL.out w7 kk hk0 hk9 (RC6.out.below h7) (RL6.out.below h7))
               clear h7)
            | (go_at_call 22; (with_reducible refine (HP4.out).mono ?_); rintro e w8 ⟨rfl, rfl⟩))
        go_wp2_with fail
        exact ⟨⟨k + 1, hm1, by go_num, HB7⟩, by simp [intOf]; omega⟩
    · go_wp2_with fail
      go_ret
      exact ⟨rfl, BB.out.trans (HB.out.mono BB.out.size)⟩

end Go.Proofs.Ythbnhdocjnhhlaa
