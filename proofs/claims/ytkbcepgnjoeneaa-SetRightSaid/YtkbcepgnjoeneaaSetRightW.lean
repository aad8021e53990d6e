/- The law SetRight, walked. -/
import Derived.Test.YtkbcepgnjoeneaaSetX
import Derived.Test.YtkbcepgnjoeneaaSetS
import Derived.Test.YtkbcepgnjoeneaaLastTwo
namespace Go.Proofs.Ytkbcepgnjoeneaa
open Go Go.RowKit
set_option linter.unusedVariables false
set_option linter.unusedSimpArgs false

theorem modify_any {w : World} {B g cap n : Nat} {l : List (Int × Int)} (h : OwnP w B (.slice (some ⟨g, 0, none⟩) n cap) n l) (j : Nat) (x : Int) :
    ∃ l', OwnP (w.setCell ⟨g, j, none⟩ (.int .i64 x)) B (.slice (some ⟨g, 0, none⟩) n cap) n l' := by
  rcases Nat.mod_two_eq_zero_or_one j with hm | hm
  · have := h.set1 (j / 2) x
    rw [show j / 2 * 2 = j by omega] at this
    exact ⟨_, this⟩
  · have := h.set2 (j / 2) x
    rw [show j / 2 * 2 + 1 = j by omega] at this
    exact ⟨_, this⟩
theorem within_v (x n : Int) (hn : 0 < n) (hn2 : n ≤ 1099511627776) : ∃ c : Nat, (c : Int) < n ∧ ∀ w, Calls Try.prog 18 #[.int .i64 x, .int .i64 n] w fun e w' => e = .returned (.int .i64 c) ∧ w = w' := by
  have h := wth_bd x n hn
  refine ⟨(wth x n).toNat, by omega, fun w => ?_⟩
  have := within_any x n hn hn2 w
  rw [show ((wth x n).toNat : Int) = wth x n by omega]
  exact this
theorem lit5 (w : World) (x0 x1 x2 x3 x4 : Int) (t : TypeId) (c : Nat) (hc : c < 5) : ∃ y : Int, (w.alloc (.cells #[.int .i64 x0, .int .i64 x1, .int .i64 x2, .int .i64 x3, .int .i64 x4] t)).drew.cell? ⟨w.heap.size, c, none⟩ = some (.int .i64 y) := by
  have key : ∀ y : Int, #[Value.int .i64 x0, .int .i64 x1, .int .i64 x2, .int .i64 x3, .int .i64 x4][c]? = some (.int .i64 y) → (w.alloc (.cells #[.int .i64 x0, .int .i64 x1, .int .i64 x2, .int .i64 x3, .int .i64 x4] t)).drew.cell? ⟨w.heap.size, c, none⟩ = some (.int .i64 y) := fun y h => by
    show (w.alloc _).cell? _ = _
    rw [World.cell?_alloc_at _ _ _ _ rfl]; exact h
  match c, hc with
  | 0, _ => exact ⟨x0, key _ rfl⟩
  | 1, _ => exact ⟨x1, key _ rfl⟩
  | 2, _ => exact ⟨x2, key _ rfl⟩
  | 3, _ => exact ⟨x3, key _ rfl⟩
  | 4, _ => exact ⟨x4, key _ rfl⟩
theorem says_all {w : World} {v : Value} {n : Nat} {l : List (Int × Int)} (h : ReadsP w v n l) : ∃ b : Bool, Calls Try.prog 17 #[v] w (Says w b) ∧ (∀ w' v' n', ReadsP w' v' n' l → Calls Try.prog 29 #[v'] w' (Says w' b)) :=
  ⟨_, right_any h, fun _ _ _ h' => rright_any h'⟩
set_option maxRecDepth 100000 in
set_option maxHeartbeats 8000000 in
theorem setRight_walk (a0 : Option Addr) (len0 cap0 : Nat) (z0 : List Int) (a1 : Int) (a2 : Int) (a3 : Int) (a4 : Int) (a5 : Int) (w : World) (w0 : IsRow .i64 w a0 len0 cap0 z0) (w1 : (Lit.int .i64 a1).wf = true) (w2 : (Lit.int .i64 a2).wf = true) (w3 : (Lit.int .i64 a3).wf = true) (w4 : (Lit.int .i64 a4).wf = true) (w5 : (Lit.int .i64 a5).wf = true) :
    Calls Try.prog 6 #[.slice a0 len0 cap0, .int .i64 a1, .int .i64 a2, .int .i64 a3, .int .i64 a4, .int .i64 a5] w fun e w' => e = .returned (.bool true) ∧ Below w.heap.size w w' := by
  have Q0 := Lib.hid w0; clear w0
  obtain ⟨LA, HLA, MA⟩ : ∃ A, Rt A ∧ ∀ w', IsRow .i64 w' a0 len0 cap0 z0 → Calls Try.prog 20 #[.slice a0 len0 cap0] w' (Tells w' A) := ⟨_, mkS_rt z0 len0, fun w' h => make_any h⟩
  replace HLA := Lib.hid HLA; replace MA := Lib.hid MA
  have F1 := Lib.hid w1; clear w1
  have F2 := Lib.hid w2; clear w2
  have F3 := Lib.hid w3; clear w3
  have F4 := Lib.hid w4; clear w4
  have F5 := Lib.hid w5; clear w5
  have BB : Hid (Below w.heap.size w w) := Lib.hid (Below.refl _ _)
  go_enter Try.func6, Try.ntmps6
  go_wp2_with fail
  have hq := known_any w
  refine hq.mono ?_
  rintro e W1 ⟨rfl, h2⟩
  clear hq
  replace Q0 := Lib.hid (IsRow.below Q0.out h2)
  replace BB := Lib.hid (BB.out.trans (h2.mono BB.out.size))
  clear h2
  have BB0 := BB
  go_wp2_with fail
  have hq := MA.out _ Q0.out
  refine hq.mono ?_
  rintro e W2 ⟨VA, rfl, h1, h2⟩
  clear hq
  replace Q0 := Lib.hid (IsRow.below Q0.out h2)
  replace BB := Lib.hid (BB.out.trans (h2.mono BB.out.size))
  clear h2
  have OA := Lib.hid h1
  have RA : Hid (ReadsP W2 VA LA.length LA) := Lib.hid h1.reads
  clear h1
  obtain ⟨AdA, CpA, eA, -, -, -⟩ := RA.out.form
  subst eA
  replace Q0 : True := trivial
  go_wp2_with fail
  refine (right_x RA.out HLA.out).mono ?_
  rintro e W ⟨rfl, h2⟩
  have OA2 := Lib.hid ((OA.out.below_top h2).more BB0.out.size)
  replace RA := Lib.hid (RA.out.below h2)
  replace BB := Lib.hid (BB.out.trans (h2.mono BB.out.size))
  clear h2 OA
  generalize hn : LA.length = nA at *
  have HN := Lib.hid hn; clear hn
  have hna := HLA.out.short
  rw [HN.out] at hna
  by_cases hn0 : nA = 0
  · subst hn0
    have RR := RA
    clear RA OA2
    obtain ⟨bb, hq, hq2⟩ := says_all RR.out
    have HQ1 := Lib.hid hq
    have HQ2 := Lib.hid hq2
    clear hq hq2
    go_wp2_with fail
    refine HQ1.out.mono ?_
    rintro e Z1 ⟨rfl, h2⟩
    replace RR := Lib.hid (RR.out.below h2)
    replace BB := Lib.hid (BB.out.trans (h2.mono BB.out.size))
    clear HQ1 h2
    go_wp2_with fail
    refine (HQ2.out _ _ _ RR.out).mono ?_
    rintro e Z2 ⟨rfl, h2⟩
    replace BB := Lib.hid (BB.out.trans (h2.mono BB.out.size))
    clear h2 HQ2 RR
    obtain ⟨b2, hq, hq2⟩ := says_all (OwnP.lit Z2 [(a4, a5)] (by simp)).reads
    have HQ := Lib.hid hq; have HQ2 := Lib.hid hq2; clear hq hq2
    cases bb
    all_goals
      go_wp2_with fail
      refine HQ.out.mono ?_
      rintro e Z3 ⟨rfl, h2⟩
      have BB3 := Lib.hid ((BB.out.alloc BB.out.size _).trans (h2.mono (BB.out.alloc BB.out.size _).size))
      clear h2 HQ
      go_wp2_with fail
      refine (HQ2.out _ _ _ (OwnP.lit Z3 [(a4, a5)] (by simp)).reads).mono ?_
      rintro e Z4 ⟨rfl, h2⟩
      have BB4 := Lib.hid ((BB3.out.alloc BB3.out.size _).trans (h2.mono (BB3.out.alloc BB3.out.size _).size))
      clear h2
      cases b2
      all_goals
        go_wp2_with fail
        go_ret
        exact ⟨rfl, BB4.out⟩
  · rcases OA2.out.form with ⟨_, hz, _⟩ | ⟨g, cap, hv, hg1, hgl, hc1, hcm, hcell⟩
    · omega
    simp only [Value.slice.injEq, true_and] at hv
    obtain ⟨rfl, rfl⟩ := hv
    have hn1 : 0 < nA := by omega
    clear hn0
    have i5 : (0 : Int) < (nA : Int) := by omega
    obtain ⟨k, hk, MK⟩ := within_v a1 nA (by omega) (by omega)
    obtain ⟨c, hc, MC⟩ := within_v a2 4 (by omega) (by omega)
    obtain ⟨x1, x2⟩ := hcell k (by omega)
    rw [Nat.zero_add] at x1 x2
    have hat := HLA.out.atD k (by rw [HN.out]; omega)
    generalize (LA.getD k (0, 0)).1 = x at *
    generalize (LA.getD k (0, 0)).2 = y at *
    obtain ⟨p1, p2, p3⟩ := hat
    have HCELL := Lib.hid hcell
    have MK := Lib.hid MK; have MC := Lib.hid MC
    have OA := OA2; clear OA2 hcell
    have k0 : (0 : Int) ≤ (k : Int) := Int.natCast_nonneg _
    have hcm : CpA ≤ 9223372036854775807 := by unfold maxLen at hcm; exact hcm
    go_wp2_with fail
    refine (MK.out _).mono ?_
    rintro e w' ⟨rfl, rfl⟩
    go_wp2_with fail
    refine (MC.out _).mono ?_
    rintro e w' ⟨rfl, rfl⟩
    have hc4 : c < 4 := by omega
    match c, hc4, MC with
    | 0, _, _ =>
      obtain ⟨c5, hc5, MV⟩ := within_v a3 5 (by omega) (by omega)
      have hc5' : c5 < 5 := by omega
      have MV := Lib.hid MV
      obtain ⟨yy, hyy⟩ := lit5 W (x - 1) y (y + 1) (-1) a3 3 c5 hc5'
      have hS : (fun w' : World => w'.cell? ⟨g, k * 2, none⟩ = some (.int .i64 x) ∧ w'.cell? ⟨g, k * 2 + 1, none⟩ = some (.int .i64 y)) W.drew := ⟨x1, x2⟩
      have hgd : g < W.heap.size := hgl
      have hfz := OA.out.thaw (k * 2)
      have e8 : IntKind.i64.wrap (x - 1) = x - 1 := IntWalk.i64_in _ (by omega)
      have e9 : IntKind.i64.wrap (y + 1) = y + 1 := IntWalk.i64_in _ (by omega)
      go_wp2_with fail
      refine region_x 27 (fun w' : World => w'.cell? ⟨g, k * 2, none⟩ = some (.int .i64 x) ∧ w'.cell? ⟨g, k * 2 + 1, none⟩ = some (.int .i64 y)) (by kernel_rfl) ?_
      refine anyX_take (i := 0) (v := ?_) rfl (by kernel_rfl) (by kernel_rfl) (by kernel_rfl) (by kernel_rfl) (fun _ _ _ h => h) (Or.inl ⟨by rfl, ?_⟩) hS ?_
      rotate_left
      · intro w' hSw
        (try dsimp only at hSw)
        go_simp
        try with_reducible rfl
      try simp only [Act.put, List.getElem_toArray, List.getElem_cons_succ, List.getElem_cons_zero, List.setIfInBounds_toArray, List.set_cons_zero, List.set_cons_succ]
      refine anyX_take (i := 1) (v := ?_) rfl (by kernel_rfl) (by kernel_rfl) (by kernel_rfl) (by kernel_rfl) (fun _ _ _ h => h) (Or.inl ⟨by rfl, ?_⟩) hS ?_
      rotate_left
      · intro w' hSw
        (try dsimp only at hSw)
        go_simp
        try with_reducible rfl
      try simp only [Act.put, List.getElem_toArray, List.getElem_cons_succ, List.getElem_cons_zero, List.setIfInBounds_toArray, List.set_cons_zero, List.set_cons_succ]
      refine anyX_take (i := 2) (v := ?_) rfl (by kernel_rfl) (by kernel_rfl) (by kernel_rfl) (by kernel_rfl) (fun _ _ _ h => h) (Or.inl ⟨by rfl, ?_⟩) hS ?_
      rotate_left
      · intro w' hSw
        (try dsimp only at hSw)
        go_simp
        try with_reducible rfl
      try simp only [Act.put, List.getElem_toArray, List.getElem_cons_succ, List.getElem_cons_zero, List.setIfInBounds_toArray, List.set_cons_zero, List.set_cons_succ]
      refine anyX_take (i := 3) (v := ?_) rfl (by kernel_rfl) (by kernel_rfl) (by kernel_rfl) (by kernel_rfl) (fun _ _ _ h => h) (Or.inl ⟨by rfl, ?_⟩) hS ?_
      rotate_left
      · intro w' hSw
        (try dsimp only at hSw)
        go_simp
        try with_reducible rfl
      try simp only [Act.put, List.getElem_toArray, List.getElem_cons_succ, List.getElem_cons_zero, List.setIfInBounds_toArray, List.set_cons_zero, List.set_cons_succ]
      refine anyX_take (i := 4) (v := ?_) rfl (by kernel_rfl) (by kernel_rfl) (by kernel_rfl) (by kernel_rfl) (fun _ _ _ h => h) (Or.inl ⟨by rfl, ?_⟩) hS ?_
      rotate_left
      · intro w' hSw
        (try dsimp only at hSw)
        go_simp
        try with_reducible rfl
      try simp only [Act.put, List.getElem_toArray, List.getElem_cons_succ, List.getElem_cons_zero, List.setIfInBounds_toArray, List.set_cons_zero, List.set_cons_succ]
      refine anyX_take (i := 5) (v := ?_) rfl (by kernel_rfl) (by kernel_rfl) (by kernel_rfl) (by kernel_rfl) (fun _ _ _ h => h) (Or.inl ⟨by rfl, ?_⟩) hS ?_
      rotate_left
      · intro w' hSw
        (try dsimp only at hSw)
        go_simp
        try with_reducible rfl
      try simp only [Act.put, List.getElem_toArray, List.getElem_cons_succ, List.getElem_cons_zero, List.setIfInBounds_toArray, List.set_cons_zero, List.set_cons_succ]
      refine anyX_take (i := 6) (v := ?_) rfl (by kernel_rfl) (by kernel_rfl) (by kernel_rfl) (by kernel_rfl) (fun _ _ _ h => h) (Or.inl ⟨by rfl, ?_⟩) hS ?_
      rotate_left
      · intro w' hSw
        (try dsimp only at hSw)
        go_simp
        try with_reducible rfl
      try simp only [Act.put, List.getElem_toArray, List.getElem_cons_succ, List.getElem_cons_zero, List.setIfInBounds_toArray, List.set_cons_zero, List.set_cons_succ]
      refine anyX_take (i := 7) (v := ?_) rfl (by kernel_rfl) (by kernel_rfl) (by kernel_rfl) (by kernel_rfl) (fun _ _ _ h => h) (Or.inl ⟨by rfl, ?_⟩) hS ?_
      rotate_left
      · intro w' hSw
        (try dsimp only at hSw)
        go_simp
        try with_reducible rfl
      try simp only [Act.put, List.getElem_toArray, List.getElem_cons_succ, List.getElem_cons_zero, List.setIfInBounds_toArray, List.set_cons_zero, List.set_cons_succ]
      refine anyX_take (i := 8) (v := ?_) rfl (by kernel_rfl) (by kernel_rfl) (by kernel_rfl) (by kernel_rfl) (fun _ _ _ h => h) (Or.inl ⟨by rfl, ?_⟩) hS ?_
      rotate_left
      · intro w' hSw
        (try dsimp only at hSw)
        go_simp
        try with_reducible rfl
      try simp only [Act.put, List.getElem_toArray, List.getElem_cons_succ, List.getElem_cons_zero, List.setIfInBounds_toArray, List.set_cons_zero, List.set_cons_succ]
      refine anyX_take (i := 9) (v := ?_) rfl (by kernel_rfl) (by kernel_rfl) (by kernel_rfl) (by kernel_rfl) (fun _ _ _ h => h) (Or.inl ⟨by rfl, ?_⟩) hS ?_
      rotate_left
      · intro w' hSw
        (try dsimp only at hSw)
        go_simp
        try with_reducible rfl
      try simp only [Act.put, List.getElem_toArray, List.getElem_cons_succ, List.getElem_cons_zero, List.setIfInBounds_toArray, List.set_cons_zero, List.set_cons_succ]
      refine anyX_take (i := 10) (v := ?_) rfl (by kernel_rfl) (by kernel_rfl) (by kernel_rfl) (by kernel_rfl) (fun _ _ _ h => h) (Or.inl ⟨by rfl, ?_⟩) hS ?_
      rotate_left
      · intro w' hSw
        (try dsimp only at hSw)
        go_simp
        try with_reducible rfl
      try simp only [Act.put, List.getElem_toArray, List.getElem_cons_succ, List.getElem_cons_zero, List.setIfInBounds_toArray, List.set_cons_zero, List.set_cons_succ]
      refine anyX_take (i := 11) (v := ?_) rfl (by kernel_rfl) (by kernel_rfl) (by kernel_rfl) (by kernel_rfl) (fun _ _ _ h => h) (Or.inl ⟨by rfl, ?_⟩) hS ?_
      rotate_left
      · intro w' hSw
        (try dsimp only at hSw)
        go_simp
        try with_reducible rfl
      try simp only [Act.put, List.getElem_toArray, List.getElem_cons_succ, List.getElem_cons_zero, List.setIfInBounds_toArray, List.set_cons_zero, List.set_cons_succ]
      refine anyX_take (i := 12) (v := ?_) rfl (by kernel_rfl) (by kernel_rfl) (by kernel_rfl) (by kernel_rfl) (fun _ _ _ h => h) (Or.inl ⟨by rfl, ?_⟩) hS ?_
      rotate_left
      · intro w' hSw
        (try dsimp only at hSw)
        go_simp
        try with_reducible rfl
      try simp only [Act.put, List.getElem_toArray, List.getElem_cons_succ, List.getElem_cons_zero, List.setIfInBounds_toArray, List.set_cons_zero, List.set_cons_succ]
      refine anyX_take (i := 13) (v := ?_) rfl (by kernel_rfl) (by kernel_rfl) (by kernel_rfl) (by kernel_rfl) (fun _ _ _ h => h) (Or.inl ⟨by rfl, ?_⟩) hS ?_
      rotate_left
      · intro w' hSw
        (try dsimp only at hSw)
        go_simp
        try with_reducible rfl
      try simp only [Act.put, List.getElem_toArray, List.getElem_cons_succ, List.getElem_cons_zero, List.setIfInBounds_toArray, List.set_cons_zero, List.set_cons_succ]
      refine anyX_take (i := 14) (v := ?_) rfl (by kernel_rfl) (by kernel_rfl) (by kernel_rfl) (by kernel_rfl) (fun _ _ _ h => h) (Or.inl ⟨by rfl, ?_⟩) hS ?_
      rotate_left
      · intro w' hSw
        (try dsimp only at hSw)
        go_simp
        try with_reducible rfl
      try simp only [Act.put, List.getElem_toArray, List.getElem_cons_succ, List.getElem_cons_zero, List.setIfInBounds_toArray, List.set_cons_zero, List.set_cons_succ]
      refine anyX_take (i := 15) (v := ?_) rfl (by kernel_rfl) (by kernel_rfl) (by kernel_rfl) (by kernel_rfl) (fun _ _ _ h => h) (Or.inl ⟨by rfl, ?_⟩) hS ?_
      rotate_left
      · intro w' hSw
        (try dsimp only at hSw)
        go_simp
        try with_reducible rfl
      try simp only [Act.put, List.getElem_toArray, List.getElem_cons_succ, List.getElem_cons_zero, List.setIfInBounds_toArray, List.set_cons_zero, List.set_cons_succ]
      refine anyX_take (i := 16) (v := ?_) rfl (by kernel_rfl) (by kernel_rfl) (by kernel_rfl) (by kernel_rfl) (fun _ _ _ h => h) (Or.inl ⟨by rfl, ?_⟩) hS ?_
      rotate_left
      · intro w' hSw
        (try dsimp only at hSw)
        go_simp
        try with_reducible rfl
      try simp only [Act.put, List.getElem_toArray, List.getElem_cons_succ, List.getElem_cons_zero, List.setIfInBounds_toArray, List.set_cons_zero, List.set_cons_succ]
      refine anyX_take (i := 17) (v := ?_) rfl (by kernel_rfl) (by kernel_rfl) (by kernel_rfl) (by kernel_rfl) (fun _ _ _ h => h) (Or.inl ⟨by rfl, ?_⟩) hS ?_
      rotate_left
      · intro w' hSw
        (try dsimp only at hSw)
        go_simp
        try with_reducible rfl
      try simp only [Act.put, List.getElem_toArray, List.getElem_cons_succ, List.getElem_cons_zero, List.setIfInBounds_toArray, List.set_cons_zero, List.set_cons_succ]
      refine anyX_take (i := 18) (v := ?_) rfl (by kernel_rfl) (by kernel_rfl) (by kernel_rfl) (by kernel_rfl) (fun _ _ _ h => h) (Or.inl ⟨by rfl, ?_⟩) hS ?_
      rotate_left
      · intro w' hSw
        (try dsimp only at hSw)
        go_simp
        try with_reducible rfl
      try simp only [Act.put, List.getElem_toArray, List.getElem_cons_succ, List.getElem_cons_zero, List.setIfInBounds_toArray, List.set_cons_zero, List.set_cons_succ]
      refine anyX_take (i := 19) (v := ?_) rfl (by kernel_rfl) (by kernel_rfl) (by kernel_rfl) (by kernel_rfl) (fun _ _ _ h => h) (Or.inl ⟨by rfl, ?_⟩) hS ?_
      rotate_left
      · intro w' hSw
        (try dsimp only at hSw)
        go_simp
        try with_reducible rfl
      try simp only [Act.put, List.getElem_toArray, List.getElem_cons_succ, List.getElem_cons_zero, List.setIfInBounds_toArray, List.set_cons_zero, List.set_cons_succ]
      refine anyX_take (i := 21) (v := ?_) rfl (by kernel_rfl) (by kernel_rfl) (by kernel_rfl) (by kernel_rfl) (fun _ _ _ h => h) (Or.inl ⟨by rfl, ?_⟩) hS ?_
      rotate_left
      · intro w' hSw
        (try dsimp only at hSw)
        go_simp
        try with_reducible rfl
      try simp only [Act.put, List.getElem_toArray, List.getElem_cons_succ, List.getElem_cons_zero, List.setIfInBounds_toArray, List.set_cons_zero, List.set_cons_succ]
      refine anyX_two (i := 20) (j := 22) (by kernel_rfl) (by decide) (by decide) rfl rfl rfl rfl ?_ ?_
      · intro K hK
        try simp only [List.getElem_toArray, List.getElem_cons_succ, List.getElem_cons_zero]
        go_simp
        have hS2 : (fun w' : World => w'.cell? ⟨g, k * 2, none⟩ = some (.int .i64 x) ∧ w'.cell? ⟨g, k * 2 + 1, none⟩ = some (.int .i64 y)) (W.alloc (.cells #[.int .i64 (x - 1), .int .i64 (y), .int .i64 (y + 1), .int .i64 (-1), .int .i64 (a3)] 3)).drew := ⟨keepA x1 _, keepA x2 _⟩
        refine hK _ _ hS2 ?_
        try simp only [Act.put, List.getElem_toArray, List.getElem_cons_succ, List.getElem_cons_zero, List.setIfInBounds_toArray, List.set_cons_zero, List.set_cons_succ]
        clear hK hS
        refine anyX_g (i := 22) (by kernel_rfl) (by decide) rfl (by rfl) ?_
        intro K hK
        try simp only [List.getElem_toArray, List.getElem_cons_succ, List.getElem_cons_zero]
        refine wp_enter (R := fun w' => (W.alloc (.cells #[.int .i64 (x - 1), .int .i64 (y), .int .i64 (y + 1), .int .i64 (-1), .int .i64 (a3)] 3)).drew = w') #[.int .i64 a3, .int .i64 5] (by rfl) (by kernel_rfl) (by kernel_rfl) ?_ (MV.out _) ?_
        · go_simp
        rintro w4 rfl
        refine hK _ _ hS2 ?_
        try simp only [Act.put, List.getElem_toArray, List.getElem_cons_succ, List.getElem_cons_zero, List.setIfInBounds_toArray, List.set_cons_zero, List.set_cons_succ]
        clear hK
        have hS := hS2
        refine anyX_g (i := 23) (by kernel_rfl) (by decide) rfl (by rfl) ?_
        intro K hK
        try simp only [List.getElem_toArray, List.getElem_cons_succ, List.getElem_cons_zero]
        go_simp
        refine hK _ _ hS ?_
        try simp only [Act.put, List.getElem_toArray, List.getElem_cons_succ, List.getElem_cons_zero, List.setIfInBounds_toArray, List.set_cons_zero, List.set_cons_succ]
        clear hK
        refine anyX_g (i := 24) (by kernel_rfl) (by decide) rfl (by rfl) ?_
        intro K hK
        try simp only [List.getElem_toArray, List.getElem_cons_succ, List.getElem_cons_zero]
        go_simp
        refine hK _ _ hS ?_
        try simp only [Act.put, List.getElem_toArray, List.getElem_cons_succ, List.getElem_cons_zero, List.setIfInBounds_toArray, List.set_cons_zero, List.set_cons_succ]
        clear hK
        refine anyX_g (i := 25) (by kernel_rfl) (by decide) rfl (by rfl) ?_
        intro K hK
        try simp only [List.getElem_toArray, List.getElem_cons_succ, List.getElem_cons_zero]
        go_simp
        refine hK _ _ hS ?_
        try simp only [Act.put, List.getElem_toArray, List.getElem_cons_succ, List.getElem_cons_zero, List.setIfInBounds_toArray, List.set_cons_zero, List.set_cons_succ]
        clear hK
        refine anyX_g (i := 26) (by kernel_rfl) (by decide) rfl (by rfl) ?_
        intro K hK
        try simp only [List.getElem_toArray, List.getElem_cons_succ, List.getElem_cons_zero]
        go_simp
        refine hK _ _ hS ?_
        try simp only [Act.put, List.getElem_toArray, List.getElem_cons_succ, List.getElem_cons_zero, List.setIfInBounds_toArray, List.set_cons_zero, List.set_cons_succ]
        clear hK
        refine anyX_last (by kernel_rfl) (by kernel_rfl) rfl rfl ?_
        try simp only [List.getElem_toArray, List.getElem_cons_succ, List.getElem_cons_zero]
        obtain ⟨c1, c2⟩ := hS
        go_simp
        apply_assumption
        obtain ⟨l', hl'⟩ := (show ∃ l', OwnP (((W.setCell ⟨g, k * 2, none⟩ (.int .i64 yy)).alloc (.cells #[.int .i64 (x - 1), .int .i64 (y), .int .i64 (y + 1), .int .i64 (-1), .int .i64 (a3)] 3)).drew) w.heap.size (.slice (some ⟨g, 0, none⟩) nA CpA) nA l' from by
          obtain ⟨l', hl'⟩ := modify_any OA.out (k * 2) yy
          exact ⟨l', (hl'.alloc _).drew⟩)
        have RR := Lib.hid hl'.reads
        have BB := Lib.hid (((BB.out.setCell (p := ⟨g, k * 2, none⟩) hg1 (.int .i64 yy)).alloc (by simpa using BB.out.size) (.cells #[.int .i64 (x - 1), .int .i64 (y), .int .i64 (y + 1), .int .i64 (-1), .int .i64 (a3)] 3)).drew)
        clear hl' RA OA HCELL c1 c2 hyy x1 x2 e8 e9 hfz
        generalize ((W.setCell ⟨g, k * 2, none⟩ (.int .i64 yy)).alloc (.cells #[.int .i64 (x - 1), .int .i64 (y), .int .i64 (y + 1), .int .i64 (-1), .int .i64 (a3)] 3)).drew = W9 at *
        obtain ⟨bb, hq, hq2⟩ := says_all RR.out
        have HQ1 := Lib.hid hq
        have HQ2 := Lib.hid hq2
        clear hq hq2
        go_wp2_with fail
        refine HQ1.out.mono ?_
        rintro e Z1 ⟨rfl, h2⟩
        replace RR := Lib.hid (RR.out.below h2)
        replace BB := Lib.hid (BB.out.trans (h2.mono BB.out.size))
        clear HQ1 h2
        go_wp2_with fail
        refine (HQ2.out _ _ _ RR.out).mono ?_
        rintro e Z2 ⟨rfl, h2⟩
        replace BB := Lib.hid (BB.out.trans (h2.mono BB.out.size))
        clear h2 HQ2 RR
        obtain ⟨b2, hq, hq2⟩ := says_all (OwnP.lit Z2 [(a4, a5)] (by simp)).reads
        have HQ := Lib.hid hq; have HQ2 := Lib.hid hq2; clear hq hq2
        cases bb
        all_goals
          go_wp2_with fail
          refine HQ.out.mono ?_
          rintro e Z3 ⟨rfl, h2⟩
          have BB3 := Lib.hid ((BB.out.alloc BB.out.size _).trans (h2.mono (BB.out.alloc BB.out.size _).size))
          clear h2 HQ
          go_wp2_with fail
          refine (HQ2.out _ _ _ (OwnP.lit Z3 [(a4, a5)] (by simp)).reads).mono ?_
          rintro e Z4 ⟨rfl, h2⟩
          have BB4 := Lib.hid ((BB3.out.alloc BB3.out.size _).trans (h2.mono (BB3.out.alloc BB3.out.size _).size))
          clear h2
          cases b2
          all_goals
            go_wp2_with fail
            go_ret
            exact ⟨rfl, BB4.out⟩
      · intro K hK
        try simp only [List.getElem_toArray, List.getElem_cons_succ, List.getElem_cons_zero]
        refine wp_enter (R := fun w' => W.drew = w') #[.int .i64 a3, .int .i64 5] (by rfl) (by kernel_rfl) (by kernel_rfl) ?_ (MV.out _) ?_
        · go_simp
        rintro w4 rfl
        refine hK _ _ hS ?_
        try simp only [Act.put, List.getElem_toArray, List.getElem_cons_succ, List.getElem_cons_zero, List.setIfInBounds_toArray, List.set_cons_zero, List.set_cons_succ]
        clear hK
        refine anyX_g (i := 20) (by kernel_rfl) (by decide) rfl (by rfl) ?_
        intro K hK
        try simp only [List.getElem_toArray, List.getElem_cons_succ, List.getElem_cons_zero]
        go_simp
        have hS2 : (fun w' : World => w'.cell? ⟨g, k * 2, none⟩ = some (.int .i64 x) ∧ w'.cell? ⟨g, k * 2 + 1, none⟩ = some (.int .i64 y)) (W.alloc (.cells #[.int .i64 (x - 1), .int .i64 (y), .int .i64 (y + 1), .int .i64 (-1), .int .i64 (a3)] 3)).drew := ⟨keepA x1 _, keepA x2 _⟩
        refine hK _ _ hS2 ?_
        try simp only [Act.put, List.getElem_toArray, List.getElem_cons_succ, List.getElem_cons_zero, List.setIfInBounds_toArray, List.set_cons_zero, List.set_cons_succ]
        clear hK hS
        have hS := hS2
        refine anyX_g (i := 23) (by kernel_rfl) (by decide) rfl (by rfl) ?_
        intro K hK
        try simp only [List.getElem_toArray, List.getElem_cons_succ, List.getElem_cons_zero]
        go_simp
        refine hK _ _ hS ?_
        try simp only [Act.put, List.getElem_toArray, List.getElem_cons_succ, List.getElem_cons_zero, List.setIfInBounds_toArray, List.set_cons_zero, List.set_cons_succ]
        clear hK
        refine anyX_g (i := 24) (by kernel_rfl) (by decide) rfl (by rfl) ?_
        intro K hK
        try simp only [List.getElem_toArray, List.getElem_cons_succ, List.getElem_cons_zero]
        go_simp
        refine hK _ _ hS ?_
        try simp only [Act.put, List.getElem_toArray, List.getElem_cons_succ, List.getElem_cons_zero, List.setIfInBounds_toArray, List.set_cons_zero, List.set_cons_succ]
        clear hK
        refine anyX_g (i := 25) (by kernel_rfl) (by decide) rfl (by rfl) ?_
        intro K hK
        try simp only [List.getElem_toArray, List.getElem_cons_succ, List.getElem_cons_zero]
        go_simp
        refine hK _ _ hS ?_
        try simp only [Act.put, List.getElem_toArray, List.getElem_cons_succ, List.getElem_cons_zero, List.setIfInBounds_toArray, List.set_cons_zero, List.set_cons_succ]
        clear hK
        refine anyX_g (i := 26) (by kernel_rfl) (by decide) rfl (by rfl) ?_
        intro K hK
        try simp only [List.getElem_toArray, List.getElem_cons_succ, List.getElem_cons_zero]
        go_simp
        refine hK _ _ hS ?_
        try simp only [Act.put, List.getElem_toArray, List.getElem_cons_succ, List.getElem_cons_zero, List.setIfInBounds_toArray, List.set_cons_zero, List.set_cons_succ]
        clear hK
        refine anyX_last (by kernel_rfl) (by kernel_rfl) rfl rfl ?_
        try simp only [List.getElem_toArray, List.getElem_cons_succ, List.getElem_cons_zero]
        obtain ⟨c1, c2⟩ := hS
        go_simp
        apply_assumption
        obtain ⟨l', hl'⟩ := (show ∃ l', OwnP (((W.setCell ⟨g, k * 2, none⟩ (.int .i64 yy)).alloc (.cells #[.int .i64 (x - 1), .int .i64 (y), .int .i64 (y + 1), .int .i64 (-1), .int .i64 (a3)] 3)).drew) w.heap.size (.slice (some ⟨g, 0, none⟩) nA CpA) nA l' from by
          obtain ⟨l', hl'⟩ := modify_any OA.out (k * 2) yy
          exact ⟨l', (hl'.alloc _).drew⟩)
        have RR := Lib.hid hl'.reads
        have BB := Lib.hid (((BB.out.setCell (p := ⟨g, k * 2, none⟩) hg1 (.int .i64 yy)).alloc (by simpa using BB.out.size) (.cells #[.int .i64 (x - 1), .int .i64 (y), .int .i64 (y + 1), .int .i64 (-1), .int .i64 (a3)] 3)).drew)
        clear hl' RA OA HCELL c1 c2 hyy x1 x2 e8 e9 hfz
        generalize ((W.setCell ⟨g, k * 2, none⟩ (.int .i64 yy)).alloc (.cells #[.int .i64 (x - 1), .int .i64 (y), .int .i64 (y + 1), .int .i64 (-1), .int .i64 (a3)] 3)).drew = W9 at *
        obtain ⟨bb, hq, hq2⟩ := says_all RR.out
        have HQ1 := Lib.hid hq
        have HQ2 := Lib.hid hq2
        clear hq hq2
        go_wp2_with fail
        refine HQ1.out.mono ?_
        rintro e Z1 ⟨rfl, h2⟩
        replace RR := Lib.hid (RR.out.below h2)
        replace BB := Lib.hid (BB.out.trans (h2.mono BB.out.size))
        clear HQ1 h2
        go_wp2_with fail
        refine (HQ2.out _ _ _ RR.out).mono ?_
        rintro e Z2 ⟨rfl, h2⟩
        replace BB := Lib.hid (BB.out.trans (h2.mono BB.out.size))
        clear h2 HQ2 RR
        obtain ⟨b2, hq, hq2⟩ := says_all (OwnP.lit Z2 [(a4, a5)] (by simp)).reads
        have HQ := Lib.hid hq; have HQ2 := Lib.hid hq2; clear hq hq2
        cases bb
        all_goals
          go_wp2_with fail
          refine HQ.out.mono ?_
          rintro e Z3 ⟨rfl, h2⟩
          have BB3 := Lib.hid ((BB.out.alloc BB.out.size _).trans (h2.mono (BB.out.alloc BB.out.size _).size))
          clear h2 HQ
          go_wp2_with fail
          refine (HQ2.out _ _ _ (OwnP.lit Z3 [(a4, a5)] (by simp)).reads).mono ?_
          rintro e Z4 ⟨rfl, h2⟩
          have BB4 := Lib.hid ((BB3.out.alloc BB3.out.size _).trans (h2.mono (BB3.out.alloc BB3.out.size _).size))
          clear h2
          cases b2
          all_goals
            go_wp2_with fail
            go_ret
            exact ⟨rfl, BB4.out⟩
    | 1, _, _ =>
      obtain ⟨c5, hc5, MV⟩ := within_v a3 5 (by omega) (by omega)
      have hc5' : c5 < 5 := by omega
      have MV := Lib.hid MV
      obtain ⟨yy, hyy⟩ := lit5 W (y + 1) x (x - 1) 1114112 a3 3 c5 hc5'
      have hS : (fun w' : World => w'.cell? ⟨g, k * 2, none⟩ = some (.int .i64 x) ∧ w'.cell? ⟨g, k * 2 + 1, none⟩ = some (.int .i64 y)) W.drew := ⟨x1, x2⟩
      have hgd : g < W.heap.size := hgl
      have hfz := OA.out.thaw (k * 2 + 1)
      have e8 : IntKind.i64.wrap (x - 1) = x - 1 := IntWalk.i64_in _ (by omega)
      have e9 : IntKind.i64.wrap (y + 1) = y + 1 := IntWalk.i64_in _ (by omega)
      go_wp2_with fail
      refine region_x 27 (fun w' : World => w'.cell? ⟨g, k * 2, none⟩ = some (.int .i64 x) ∧ w'.cell? ⟨g, k * 2 + 1, none⟩ = some (.int .i64 y)) (by kernel_rfl) ?_
      refine anyX_take (i := 0) (v := ?_) rfl (by kernel_rfl) (by kernel_rfl) (by kernel_rfl) (by kernel_rfl) (fun _ _ _ h => h) (Or.inl ⟨by rfl, ?_⟩) hS ?_
      rotate_left
      · intro w' hSw
        (try dsimp only at hSw)
        go_simp
        try with_reducible rfl
      try simp only [Act.put, List.getElem_toArray, List.getElem_cons_succ, List.getElem_cons_zero, List.setIfInBounds_toArray, List.set_cons_zero, List.set_cons_succ]
      refine anyX_take (i := 1) (v := ?_) rfl (by kernel_rfl) (by kernel_rfl) (by kernel_rfl) (by kernel_rfl) (fun _ _ _ h => h) (Or.inl ⟨by rfl, ?_⟩) hS ?_
      rotate_left
      · intro w' hSw
        (try dsimp only at hSw)
        go_simp
        try with_reducible rfl
      try simp only [Act.put, List.getElem_toArray, List.getElem_cons_succ, List.getElem_cons_zero, List.setIfInBounds_toArray, List.set_cons_zero, List.set_cons_succ]
      refine anyX_take (i := 2) (v := ?_) rfl (by kernel_rfl) (by kernel_rfl) (by kernel_rfl) (by kernel_rfl) (fun _ _ _ h => h) (Or.inl ⟨by rfl, ?_⟩) hS ?_
      rotate_left
      · intro w' hSw
        (try dsimp only at hSw)
        go_simp
        try with_reducible rfl
      try simp only [Act.put, List.getElem_toArray, List.getElem_cons_succ, List.getElem_cons_zero, List.setIfInBounds_toArray, List.set_cons_zero, List.set_cons_succ]
      refine anyX_take (i := 3) (v := ?_) rfl (by kernel_rfl) (by kernel_rfl) (by kernel_rfl) (by kernel_rfl) (fun _ _ _ h => h) (Or.inl ⟨by rfl, ?_⟩) hS ?_
      rotate_left
      · intro w' hSw
        (try dsimp only at hSw)
        go_simp
        try with_reducible rfl
      try simp only [Act.put, List.getElem_toArray, List.getElem_cons_succ, List.getElem_cons_zero, List.setIfInBounds_toArray, List.set_cons_zero, List.set_cons_succ]
      refine anyX_take (i := 4) (v := ?_) rfl (by kernel_rfl) (by kernel_rfl) (by kernel_rfl) (by kernel_rfl) (fun _ _ _ h => h) (Or.inl ⟨by rfl, ?_⟩) hS ?_
      rotate_left
      · intro w' hSw
        (try dsimp only at hSw)
        go_simp
        try with_reducible rfl
      try simp only [Act.put, List.getElem_toArray, List.getElem_cons_succ, List.getElem_cons_zero, List.setIfInBounds_toArray, List.set_cons_zero, List.set_cons_succ]
      refine anyX_take (i := 5) (v := ?_) rfl (by kernel_rfl) (by kernel_rfl) (by kernel_rfl) (by kernel_rfl) (fun _ _ _ h => h) (Or.inl ⟨by rfl, ?_⟩) hS ?_
      rotate_left
      · intro w' hSw
        (try dsimp only at hSw)
        go_simp
        try with_reducible rfl
      try simp only [Act.put, List.getElem_toArray, List.getElem_cons_succ, List.getElem_cons_zero, List.setIfInBounds_toArray, List.set_cons_zero, List.set_cons_succ]
      refine anyX_take (i := 6) (v := ?_) rfl (by kernel_rfl) (by kernel_rfl) (by kernel_rfl) (by kernel_rfl) (fun _ _ _ h => h) (Or.inl ⟨by rfl, ?_⟩) hS ?_
      rotate_left
      · intro w' hSw
        (try dsimp only at hSw)
        go_simp
        try with_reducible rfl
      try simp only [Act.put, List.getElem_toArray, List.getElem_cons_succ, List.getElem_cons_zero, List.setIfInBounds_toArray, List.set_cons_zero, List.set_cons_succ]
      refine anyX_take (i := 7) (v := ?_) rfl (by kernel_rfl) (by kernel_rfl) (by kernel_rfl) (by kernel_rfl) (fun _ _ _ h => h) (Or.inl ⟨by rfl, ?_⟩) hS ?_
      rotate_left
      · intro w' hSw
        (try dsimp only at hSw)
        go_simp
        try with_reducible rfl
      try simp only [Act.put, List.getElem_toArray, List.getElem_cons_succ, List.getElem_cons_zero, List.setIfInBounds_toArray, List.set_cons_zero, List.set_cons_succ]
      refine anyX_take (i := 8) (v := ?_) rfl (by kernel_rfl) (by kernel_rfl) (by kernel_rfl) (by kernel_rfl) (fun _ _ _ h => h) (Or.inl ⟨by rfl, ?_⟩) hS ?_
      rotate_left
      · intro w' hSw
        (try dsimp only at hSw)
        go_simp
        try with_reducible rfl
      try simp only [Act.put, List.getElem_toArray, List.getElem_cons_succ, List.getElem_cons_zero, List.setIfInBounds_toArray, List.set_cons_zero, List.set_cons_succ]
      refine anyX_take (i := 9) (v := ?_) rfl (by kernel_rfl) (by kernel_rfl) (by kernel_rfl) (by kernel_rfl) (fun _ _ _ h => h) (Or.inl ⟨by rfl, ?_⟩) hS ?_
      rotate_left
      · intro w' hSw
        (try dsimp only at hSw)
        go_simp
        try with_reducible rfl
      try simp only [Act.put, List.getElem_toArray, List.getElem_cons_succ, List.getElem_cons_zero, List.setIfInBounds_toArray, List.set_cons_zero, List.set_cons_succ]
      refine anyX_take (i := 10) (v := ?_) rfl (by kernel_rfl) (by kernel_rfl) (by kernel_rfl) (by kernel_rfl) (fun _ _ _ h => h) (Or.inl ⟨by rfl, ?_⟩) hS ?_
      rotate_left
      · intro w' hSw
        (try dsimp only at hSw)
        go_simp
        try with_reducible rfl
      try simp only [Act.put, List.getElem_toArray, List.getElem_cons_succ, List.getElem_cons_zero, List.setIfInBounds_toArray, List.set_cons_zero, List.set_cons_succ]
      refine anyX_take (i := 11) (v := ?_) rfl (by kernel_rfl) (by kernel_rfl) (by kernel_rfl) (by kernel_rfl) (fun _ _ _ h => h) (Or.inl ⟨by rfl, ?_⟩) hS ?_
      rotate_left
      · intro w' hSw
        (try dsimp only at hSw)
        go_simp
        try with_reducible rfl
      try simp only [Act.put, List.getElem_toArray, List.getElem_cons_succ, List.getElem_cons_zero, List.setIfInBounds_toArray, List.set_cons_zero, List.set_cons_succ]
      refine anyX_take (i := 12) (v := ?_) rfl (by kernel_rfl) (by kernel_rfl) (by kernel_rfl) (by kernel_rfl) (fun _ _ _ h => h) (Or.inl ⟨by rfl, ?_⟩) hS ?_
      rotate_left
      · intro w' hSw
        (try dsimp only at hSw)
        go_simp
        try with_reducible rfl
      try simp only [Act.put, List.getElem_toArray, List.getElem_cons_succ, List.getElem_cons_zero, List.setIfInBounds_toArray, List.set_cons_zero, List.set_cons_succ]
      refine anyX_take (i := 13) (v := ?_) rfl (by kernel_rfl) (by kernel_rfl) (by kernel_rfl) (by kernel_rfl) (fun _ _ _ h => h) (Or.inl ⟨by rfl, ?_⟩) hS ?_
      rotate_left
      · intro w' hSw
        (try dsimp only at hSw)
        go_simp
        try with_reducible rfl
      try simp only [Act.put, List.getElem_toArray, List.getElem_cons_succ, List.getElem_cons_zero, List.setIfInBounds_toArray, List.set_cons_zero, List.set_cons_succ]
      refine anyX_take (i := 14) (v := ?_) rfl (by kernel_rfl) (by kernel_rfl) (by kernel_rfl) (by kernel_rfl) (fun _ _ _ h => h) (Or.inl ⟨by rfl, ?_⟩) hS ?_
      rotate_left
      · intro w' hSw
        (try dsimp only at hSw)
        go_simp
        try with_reducible rfl
      try simp only [Act.put, List.getElem_toArray, List.getElem_cons_succ, List.getElem_cons_zero, List.setIfInBounds_toArray, List.set_cons_zero, List.set_cons_succ]
      refine anyX_take (i := 15) (v := ?_) rfl (by kernel_rfl) (by kernel_rfl) (by kernel_rfl) (by kernel_rfl) (fun _ _ _ h => h) (Or.inl ⟨by rfl, ?_⟩) hS ?_
      rotate_left
      · intro w' hSw
        (try dsimp only at hSw)
        go_simp
        try with_reducible rfl
      try simp only [Act.put, List.getElem_toArray, List.getElem_cons_succ, List.getElem_cons_zero, List.setIfInBounds_toArray, List.set_cons_zero, List.set_cons_succ]
      refine anyX_take (i := 16) (v := ?_) rfl (by kernel_rfl) (by kernel_rfl) (by kernel_rfl) (by kernel_rfl) (fun _ _ _ h => h) (Or.inl ⟨by rfl, ?_⟩) hS ?_
      rotate_left
      · intro w' hSw
        (try dsimp only at hSw)
        go_simp
        try with_reducible rfl
      try simp only [Act.put, List.getElem_toArray, List.getElem_cons_succ, List.getElem_cons_zero, List.setIfInBounds_toArray, List.set_cons_zero, List.set_cons_succ]
      refine anyX_take (i := 17) (v := ?_) rfl (by kernel_rfl) (by kernel_rfl) (by kernel_rfl) (by kernel_rfl) (fun _ _ _ h => h) (Or.inl ⟨by rfl, ?_⟩) hS ?_
      rotate_left
      · intro w' hSw
        (try dsimp only at hSw)
        go_simp
        try with_reducible rfl
      try simp only [Act.put, List.getElem_toArray, List.getElem_cons_succ, List.getElem_cons_zero, List.setIfInBounds_toArray, List.set_cons_zero, List.set_cons_succ]
      refine anyX_take (i := 18) (v := ?_) rfl (by kernel_rfl) (by kernel_rfl) (by kernel_rfl) (by kernel_rfl) (fun _ _ _ h => h) (Or.inl ⟨by rfl, ?_⟩) hS ?_
      rotate_left
      · intro w' hSw
        (try dsimp only at hSw)
        go_simp
        try with_reducible rfl
      try simp only [Act.put, List.getElem_toArray, List.getElem_cons_succ, List.getElem_cons_zero, List.setIfInBounds_toArray, List.set_cons_zero, List.set_cons_succ]
      refine anyX_take (i := 19) (v := ?_) rfl (by kernel_rfl) (by kernel_rfl) (by kernel_rfl) (by kernel_rfl) (fun _ _ _ h => h) (Or.inl ⟨by rfl, ?_⟩) hS ?_
      rotate_left
      · intro w' hSw
        (try dsimp only at hSw)
        go_simp
        try with_reducible rfl
      try simp only [Act.put, List.getElem_toArray, List.getElem_cons_succ, List.getElem_cons_zero, List.setIfInBounds_toArray, List.set_cons_zero, List.set_cons_succ]
      refine anyX_take (i := 21) (v := ?_) rfl (by kernel_rfl) (by kernel_rfl) (by kernel_rfl) (by kernel_rfl) (fun _ _ _ h => h) (Or.inl ⟨by rfl, ?_⟩) hS ?_
      rotate_left
      · intro w' hSw
        (try dsimp only at hSw)
        go_simp
        try with_reducible rfl
      try simp only [Act.put, List.getElem_toArray, List.getElem_cons_succ, List.getElem_cons_zero, List.setIfInBounds_toArray, List.set_cons_zero, List.set_cons_succ]
      refine anyX_two (i := 20) (j := 22) (by kernel_rfl) (by decide) (by decide) rfl rfl rfl rfl ?_ ?_
      · intro K hK
        try simp only [List.getElem_toArray, List.getElem_cons_succ, List.getElem_cons_zero]
        go_simp
        have hS2 : (fun w' : World => w'.cell? ⟨g, k * 2, none⟩ = some (.int .i64 x) ∧ w'.cell? ⟨g, k * 2 + 1, none⟩ = some (.int .i64 y)) (W.alloc (.cells #[.int .i64 (y + 1), .int .i64 (x), .int .i64 (x - 1), .int .i64 (1114112), .int .i64 (a3)] 3)).drew := ⟨keepA x1 _, keepA x2 _⟩
        refine hK _ _ hS2 ?_
        try simp only [Act.put, List.getElem_toArray, List.getElem_cons_succ, List.getElem_cons_zero, List.setIfInBounds_toArray, List.set_cons_zero, List.set_cons_succ]
        clear hK hS
        refine anyX_g (i := 22) (by kernel_rfl) (by decide) rfl (by rfl) ?_
        intro K hK
        try simp only [List.getElem_toArray, List.getElem_cons_succ, List.getElem_cons_zero]
        refine wp_enter (R := fun w' => (W.alloc (.cells #[.int .i64 (y + 1), .int .i64 (x), .int .i64 (x - 1), .int .i64 (1114112), .int .i64 (a3)] 3)).drew = w') #[.int .i64 a3, .int .i64 5] (by rfl) (by kernel_rfl) (by kernel_rfl) ?_ (MV.out _) ?_
        · go_simp
        rintro w4 rfl
        refine hK _ _ hS2 ?_
        try simp only [Act.put, List.getElem_toArray, List.getElem_cons_succ, List.getElem_cons_zero, List.setIfInBounds_toArray, List.set_cons_zero, List.set_cons_succ]
        clear hK
        have hS := hS2
        refine anyX_g (i := 23) (by kernel_rfl) (by decide) rfl (by rfl) ?_
        intro K hK
        try simp only [List.getElem_toArray, List.getElem_cons_succ, List.getElem_cons_zero]
        go_simp
        refine hK _ _ hS ?_
        try simp only [Act.put, List.getElem_toArray, List.getElem_cons_succ, List.getElem_cons_zero, List.setIfInBounds_toArray, List.set_cons_zero, List.set_cons_succ]
        clear hK
        refine anyX_g (i := 24) (by kernel_rfl) (by decide) rfl (by rfl) ?_
        intro K hK
        try simp only [List.getElem_toArray, List.getElem_cons_succ, List.getElem_cons_zero]
        go_simp
        refine hK _ _ hS ?_
        try simp only [Act.put, List.getElem_toArray, List.getElem_cons_succ, List.getElem_cons_zero, List.setIfInBounds_toArray, List.set_cons_zero, List.set_cons_succ]
        clear hK
        refine anyX_g (i := 25) (by kernel_rfl) (by decide) rfl (by rfl) ?_
        intro K hK
        try simp only [List.getElem_toArray, List.getElem_cons_succ, List.getElem_cons_zero]
        go_simp
        refine hK _ _ hS ?_
        try simp only [Act.put, List.getElem_toArray, List.getElem_cons_succ, List.getElem_cons_zero, List.setIfInBounds_toArray, List.set_cons_zero, List.set_cons_succ]
        clear hK
        refine anyX_g (i := 26) (by kernel_rfl) (by decide) rfl (by rfl) ?_
        intro K hK
        try simp only [List.getElem_toArray, List.getElem_cons_succ, List.getElem_cons_zero]
        go_simp
        refine hK _ _ hS ?_
        try simp only [Act.put, List.getElem_toArray, List.getElem_cons_succ, List.getElem_cons_zero, List.setIfInBounds_toArray, List.set_cons_zero, List.set_cons_succ]
        clear hK
        refine anyX_last (by kernel_rfl) (by kernel_rfl) rfl rfl ?_
        try simp only [List.getElem_toArray, List.getElem_cons_succ, List.getElem_cons_zero]
        obtain ⟨c1, c2⟩ := hS
        go_simp
        apply_assumption
        obtain ⟨l', hl'⟩ := (show ∃ l', OwnP (((W.setCell ⟨g, k * 2 + 1, none⟩ (.int .i64 yy)).alloc (.cells #[.int .i64 (y + 1), .int .i64 (x), .int .i64 (x - 1), .int .i64 (1114112), .int .i64 (a3)] 3)).drew) w.heap.size (.slice (some ⟨g, 0, none⟩) nA CpA) nA l' from by
          obtain ⟨l', hl'⟩ := modify_any OA.out (k * 2 + 1) yy
          exact ⟨l', (hl'.alloc _).drew⟩)
        have RR := Lib.hid hl'.reads
        have BB := Lib.hid (((BB.out.setCell (p := ⟨g, k * 2 + 1, none⟩) hg1 (.int .i64 yy)).alloc (by simpa using BB.out.size) (.cells #[.int .i64 (y + 1), .int .i64 (x), .int .i64 (x - 1), .int .i64 (1114112), .int .i64 (a3)] 3)).drew)
        clear hl' RA OA HCELL c1 c2 hyy x1 x2 e8 e9 hfz
        generalize ((W.setCell ⟨g, k * 2 + 1, none⟩ (.int .i64 yy)).alloc (.cells #[.int .i64 (y + 1), .int .i64 (x), .int .i64 (x - 1), .int .i64 (1114112), .int .i64 (a3)] 3)).drew = W9 at *
        obtain ⟨bb, hq, hq2⟩ := says_all RR.out
        have HQ1 := Lib.hid hq
        have HQ2 := Lib.hid hq2
        clear hq hq2
        go_wp2_with fail
        refine HQ1.out.mono ?_
        rintro e Z1 ⟨rfl, h2⟩
        replace RR := Lib.hid (RR.out.below h2)
        replace BB := Lib.hid (BB.out.trans (h2.mono BB.out.size))
        clear HQ1 h2
        go_wp2_with fail
        refine (HQ2.out _ _ _ RR.out).mono ?_
        rintro e Z2 ⟨rfl, h2⟩
        replace BB := Lib.hid (BB.out.trans (h2.mono BB.out.size))
        clear h2 HQ2 RR
        obtain ⟨b2, hq, hq2⟩ := says_all (OwnP.lit Z2 [(a4, a5)] (by simp)).reads
        have HQ := Lib.hid hq; have HQ2 := Lib.hid hq2; clear hq hq2
        cases bb
        all_goals
          go_wp2_with fail
          refine HQ.out.mono ?_
          rintro e Z3 ⟨rfl, h2⟩
          have BB3 := Lib.hid ((BB.out.alloc BB.out.size _).trans (h2.mono (BB.out.alloc BB.out.size _).size))
          clear h2 HQ
          go_wp2_with fail
          refine (HQ2.out _ _ _ (OwnP.lit Z3 [(a4, a5)] (by simp)).reads).mono ?_
          rintro e Z4 ⟨rfl, h2⟩
          have BB4 := Lib.hid ((BB3.out.alloc BB3.out.size _).trans (h2.mono (BB3.out.alloc BB3.out.size _).size))
          clear h2
          cases b2
          all_goals
            go_wp2_with fail
            go_ret
            exact ⟨rfl, BB4.out⟩
      · intro K hK
        try simp only [List.getElem_toArray, List.getElem_cons_succ, List.getElem_cons_zero]
        refine wp_enter (R := fun w' => W.drew = w') #[.int .i64 a3, .int .i64 5] (by rfl) (by kernel_rfl) (by kernel_rfl) ?_ (MV.out _) ?_
        · go_simp
        rintro w4 rfl
        refine hK _ _ hS ?_
        try simp only [Act.put, List.getElem_toArray, List.getElem_cons_succ, List.getElem_cons_zero, List.setIfInBounds_toArray, List.set_cons_zero, List.set_cons_succ]
        clear hK
        refine anyX_g (i := 20) (by kernel_rfl) (by decide) rfl (by rfl) ?_
        intro K hK
        try simp only [List.getElem_toArray, List.getElem_cons_succ, List.getElem_cons_zero]
        go_simp
        have hS2 : (fun w' : World => w'.cell? ⟨g, k * 2, none⟩ = some (.int .i64 x) ∧ w'.cell? ⟨g, k * 2 + 1, none⟩ = some (.int .i64 y)) (W.alloc (.cells #[.int .i64 (y + 1), .int .i64 (x), .int .i64 (x - 1), .int .i64 (1114112), .int .i64 (a3)] 3)).drew := ⟨keepA x1 _, keepA x2 _⟩
        refine hK _ _ hS2 ?_
        try simp only [Act.put, List.getElem_toArray, List.getElem_cons_succ, List.getElem_cons_zero, List.setIfInBounds_toArray, List.set_cons_zero, List.set_cons_succ]
        clear hK hS
        have hS := hS2
        refine anyX_g (i := 23) (by kernel_rfl) (by decide) rfl (by rfl) ?_
        intro K hK
        try simp only [List.getElem_toArray, List.getElem_cons_succ, List.getElem_cons_zero]
        go_simp
        refine hK _ _ hS ?_
        try simp only [Act.put, List.getElem_toArray, List.getElem_cons_succ, List.getElem_cons_zero, List.setIfInBounds_toArray, List.set_cons_zero, List.set_cons_succ]
        clear hK
        refine anyX_g (i := 24) (by kernel_rfl) (by decide) rfl (by rfl) ?_
        intro K hK
        try simp only [List.getElem_toArray, List.getElem_cons_succ, List.getElem_cons_zero]
        go_simp
        refine hK _ _ hS ?_
        try simp only [Act.put, List.getElem_toArray, List.getElem_cons_succ, List.getElem_cons_zero, List.setIfInBounds_toArray, List.set_cons_zero, List.set_cons_succ]
        clear hK
        refine anyX_g (i := 25) (by kernel_rfl) (by decide) rfl (by rfl) ?_
        intro K hK
        try simp only [List.getElem_toArray, List.getElem_cons_succ, List.getElem_cons_zero]
        go_simp
        refine hK _ _ hS ?_
        try simp only [Act.put, List.getElem_toArray, List.getElem_cons_succ, List.getElem_cons_zero, List.setIfInBounds_toArray, List.set_cons_zero, List.set_cons_succ]
        clear hK
        refine anyX_g (i := 26) (by kernel_rfl) (by decide) rfl (by rfl) ?_
        intro K hK
        try simp only [List.getElem_toArray, List.getElem_cons_succ, List.getElem_cons_zero]
        go_simp
        refine hK _ _ hS ?_
        try simp only [Act.put, List.getElem_toArray, List.getElem_cons_succ, List.getElem_cons_zero, List.setIfInBounds_toArray, List.set_cons_zero, List.set_cons_succ]
        clear hK
        refine anyX_last (by kernel_rfl) (by kernel_rfl) rfl rfl ?_
        try simp only [List.getElem_toArray, List.getElem_cons_succ, List.getElem_cons_zero]
        obtain ⟨c1, c2⟩ := hS
        go_simp
        apply_assumption
        obtain ⟨l', hl'⟩ := (show ∃ l', OwnP (((W.setCell ⟨g, k * 2 + 1, none⟩ (.int .i64 yy)).alloc (.cells #[.int .i64 (y + 1), .int .i64 (x), .int .i64 (x - 1), .int .i64 (1114112), .int .i64 (a3)] 3)).drew) w.heap.size (.slice (some ⟨g, 0, none⟩) nA CpA) nA l' from by
          obtain ⟨l', hl'⟩ := modify_any OA.out (k * 2 + 1) yy
          exact ⟨l', (hl'.alloc _).drew⟩)
        have RR := Lib.hid hl'.reads
        have BB := Lib.hid (((BB.out.setCell (p := ⟨g, k * 2 + 1, none⟩) hg1 (.int .i64 yy)).alloc (by simpa using BB.out.size) (.cells #[.int .i64 (y + 1), .int .i64 (x), .int .i64 (x - 1), .int .i64 (1114112), .int .i64 (a3)] 3)).drew)
        clear hl' RA OA HCELL c1 c2 hyy x1 x2 e8 e9 hfz
        generalize ((W.setCell ⟨g, k * 2 + 1, none⟩ (.int .i64 yy)).alloc (.cells #[.int .i64 (y + 1), .int .i64 (x), .int .i64 (x - 1), .int .i64 (1114112), .int .i64 (a3)] 3)).drew = W9 at *
        obtain ⟨bb, hq, hq2⟩ := says_all RR.out
        have HQ1 := Lib.hid hq
        have HQ2 := Lib.hid hq2
        clear hq hq2
        go_wp2_with fail
        refine HQ1.out.mono ?_
        rintro e Z1 ⟨rfl, h2⟩
        replace RR := Lib.hid (RR.out.below h2)
        replace BB := Lib.hid (BB.out.trans (h2.mono BB.out.size))
        clear HQ1 h2
        go_wp2_with fail
        refine (HQ2.out _ _ _ RR.out).mono ?_
        rintro e Z2 ⟨rfl, h2⟩
        replace BB := Lib.hid (BB.out.trans (h2.mono BB.out.size))
        clear h2 HQ2 RR
        obtain ⟨b2, hq, hq2⟩ := says_all (OwnP.lit Z2 [(a4, a5)] (by simp)).reads
        have HQ := Lib.hid hq; have HQ2 := Lib.hid hq2; clear hq hq2
        cases bb
        all_goals
          go_wp2_with fail
          refine HQ.out.mono ?_
          rintro e Z3 ⟨rfl, h2⟩
          have BB3 := Lib.hid ((BB.out.alloc BB.out.size _).trans (h2.mono (BB.out.alloc BB.out.size _).size))
          clear h2 HQ
          go_wp2_with fail
          refine (HQ2.out _ _ _ (OwnP.lit Z3 [(a4, a5)] (by simp)).reads).mono ?_
          rintro e Z4 ⟨rfl, h2⟩
          have BB4 := Lib.hid ((BB3.out.alloc BB3.out.size _).trans (h2.mono (BB3.out.alloc BB3.out.size _).size))
          clear h2
          cases b2
          all_goals
            go_wp2_with fail
            go_ret
            exact ⟨rfl, BB4.out⟩
    | 2, _, _ =>
      obtain ⟨z1, z2⟩ := HCELL.out 0 hn1
      simp only [Nat.zero_mul, Nat.zero_add, Nat.add_zero] at z1 z2
      generalize (LA.getD 0 (0, 0)).1 = u1 at *
      generalize (LA.getD 0 (0, 0)).2 = u2 at *
      have f0 := OA.out.thaw 0
      have f1 := OA.out.thaw 1
      have fk := OA.out.thaw (k * 2)
      have fk1 := OA.out.thaw (k * 2 + 1)
      by_cases hk0 : k = 0
      · subst hk0
        clear x1 x2 fk fk1 HCELL
        go_wp2_with fail
        go_region
        go_wp2_with fail
        obtain ⟨l1, o1⟩ := modify_any OA.out (0) u1
        obtain ⟨l2, o2⟩ := modify_any o1 (1) u2
        obtain ⟨l3, o3⟩ := modify_any o2 (0) u1
        obtain ⟨l4, o4⟩ := modify_any o3 (1) u2
        have RR := Lib.hid o4.drew.reads
        have BB := Lib.hid (((((BB.out.setCell (p := ⟨g, 0, none⟩) hg1 (.int .i64 u1)).setCell (p := ⟨g, 1, none⟩) hg1 (.int .i64 u2)).setCell (p := ⟨g, 0, none⟩) hg1 (.int .i64 u1)).setCell (p := ⟨g, 1, none⟩) hg1 (.int .i64 u2)).drew)
        clear o1 o2 o3 o4 OA RA z1 z2 f0 f1
        generalize ((((W.setCell ⟨g, 0, none⟩ (.int .i64 u1)).setCell ⟨g, 1, none⟩ (.int .i64 u2)).setCell ⟨g, 0, none⟩ (.int .i64 u1)).setCell ⟨g, 1, none⟩ (.int .i64 u2)).drew = W9 at *
        obtain ⟨bb, hq, hq2⟩ := says_all RR.out
        have HQ1 := Lib.hid hq
        have HQ2 := Lib.hid hq2
        clear hq hq2
        go_wp2_with fail
        refine HQ1.out.mono ?_
        rintro e Z1 ⟨rfl, h2⟩
        replace RR := Lib.hid (RR.out.below h2)
        replace BB := Lib.hid (BB.out.trans (h2.mono BB.out.size))
        clear HQ1 h2
        go_wp2_with fail
        refine (HQ2.out _ _ _ RR.out).mono ?_
        rintro e Z2 ⟨rfl, h2⟩
        replace BB := Lib.hid (BB.out.trans (h2.mono BB.out.size))
        clear h2 HQ2 RR
        obtain ⟨b2, hq, hq2⟩ := says_all (OwnP.lit Z2 [(a4, a5)] (by simp)).reads
        have HQ := Lib.hid hq; have HQ2 := Lib.hid hq2; clear hq hq2
        cases bb
        all_goals
          go_wp2_with fail
          refine HQ.out.mono ?_
          rintro e Z3 ⟨rfl, h2⟩
          have BB3 := Lib.hid ((BB.out.alloc BB.out.size _).trans (h2.mono (BB.out.alloc BB.out.size _).size))
          clear h2 HQ
          go_wp2_with fail
          refine (HQ2.out _ _ _ (OwnP.lit Z3 [(a4, a5)] (by simp)).reads).mono ?_
          rintro e Z4 ⟨rfl, h2⟩
          have BB4 := Lib.hid ((BB3.out.alloc BB3.out.size _).trans (h2.mono (BB3.out.alloc BB3.out.size _).size))
          clear h2
          cases b2
          all_goals
            go_wp2_with fail
            go_ret
            exact ⟨rfl, BB4.out⟩
      · have hk1 : 0 < k := by omega
        have m1 : ¬ k * 2 = 0 := by omega
        have m2 : ¬ k * 2 = 1 := by omega
        have m3 : ¬ k * 2 + 1 = 0 := by omega
        have m4 : ¬ k * 2 + 1 = 1 := by omega
        clear HCELL hk0
        go_wp2_with fail
        go_region
        clear x1 x2 fk fk1 m1 m2 m3 m4
        go_wp2_with fail
        obtain ⟨l1, o1⟩ := modify_any OA.out (k * 2) u1
        obtain ⟨l2, o2⟩ := modify_any o1 (k * 2 + 1) u2
        obtain ⟨l3, o3⟩ := modify_any o2 (0) x
        obtain ⟨l4, o4⟩ := modify_any o3 (1) y
        have RR := Lib.hid o4.drew.reads
        have BB := Lib.hid (((((BB.out.setCell (p := ⟨g, k * 2, none⟩) hg1 (.int .i64 u1)).setCell (p := ⟨g, k * 2 + 1, none⟩) hg1 (.int .i64 u2)).setCell (p := ⟨g, 0, none⟩) hg1 (.int .i64 x)).setCell (p := ⟨g, 1, none⟩) hg1 (.int .i64 y)).drew)
        clear o1 o2 o3 o4 OA RA z1 z2 f0 f1
        generalize ((((W.setCell ⟨g, k * 2, none⟩ (.int .i64 u1)).setCell ⟨g, k * 2 + 1, none⟩ (.int .i64 u2)).setCell ⟨g, 0, none⟩ (.int .i64 x)).setCell ⟨g, 1, none⟩ (.int .i64 y)).drew = W9 at *
        obtain ⟨bb, hq, hq2⟩ := says_all RR.out
        have HQ1 := Lib.hid hq
        have HQ2 := Lib.hid hq2
        clear hq hq2
        go_wp2_with fail
        refine HQ1.out.mono ?_
        rintro e Z1 ⟨rfl, h2⟩
        replace RR := Lib.hid (RR.out.below h2)
        replace BB := Lib.hid (BB.out.trans (h2.mono BB.out.size))
        clear HQ1 h2
        go_wp2_with fail
        refine (HQ2.out _ _ _ RR.out).mono ?_
        rintro e Z2 ⟨rfl, h2⟩
        replace BB := Lib.hid (BB.out.trans (h2.mono BB.out.size))
        clear h2 HQ2 RR
        obtain ⟨b2, hq, hq2⟩ := says_all (OwnP.lit Z2 [(a4, a5)] (by simp)).reads
        have HQ := Lib.hid hq; have HQ2 := Lib.hid hq2; clear hq hq2
        cases bb
        all_goals
          go_wp2_with fail
          refine HQ.out.mono ?_
          rintro e Z3 ⟨rfl, h2⟩
          have BB3 := Lib.hid ((BB.out.alloc BB.out.size _).trans (h2.mono (BB.out.alloc BB.out.size _).size))
          clear h2 HQ
          go_wp2_with fail
          refine (HQ2.out _ _ _ (OwnP.lit Z3 [(a4, a5)] (by simp)).reads).mono ?_
          rintro e Z4 ⟨rfl, h2⟩
          have BB4 := Lib.hid ((BB3.out.alloc BB3.out.size _).trans (h2.mono (BB3.out.alloc BB3.out.size _).size))
          clear h2
          cases b2
          all_goals
            go_wp2_with fail
            go_ret
            exact ⟨rfl, BB4.out⟩
    | 3, _, _ =>
      have hzW := BB.out.size
      clear x1 x2 HCELL
      go_wp2_with (at_builtin; refine wpList_pushP rfl (.tmp 105) (.tmp 109) rfl w.heap.size _ _ _ _ _ _ (by rfl) OA.out _ (by rfl) rfl (by omega) hzW ?_
                   intro g1 c1 w2 hp1
                   have RR := Lib.hid hp1.own.reads
                   have BB9 := Lib.hid (hp1.below BB.out (Nat.le_refl _) hzW)
                   clear hp1)
      replace BB := BB9
      clear BB9 RA OA
      obtain ⟨bb, hq, hq2⟩ := says_all RR.out
      have HQ1 := Lib.hid hq
      have HQ2 := Lib.hid hq2
      clear hq hq2
      go_wp2_with fail
      refine HQ1.out.mono ?_
      rintro e Z1 ⟨rfl, h2⟩
      replace RR := Lib.hid (RR.out.below h2)
      replace BB := Lib.hid (BB.out.trans (h2.mono BB.out.size))
      clear HQ1 h2
      go_wp2_with fail
      refine (HQ2.out _ _ _ RR.out).mono ?_
      rintro e Z2 ⟨rfl, h2⟩
      replace BB := Lib.hid (BB.out.trans (h2.mono BB.out.size))
      clear h2 HQ2 RR
      obtain ⟨b2, hq, hq2⟩ := says_all (OwnP.lit Z2 [(a4, a5)] (by simp)).reads
      have HQ := Lib.hid hq; have HQ2 := Lib.hid hq2; clear hq hq2
      cases bb
      all_goals
        go_wp2_with fail
        refine HQ.out.mono ?_
        rintro e Z3 ⟨rfl, h2⟩
        have BB3 := Lib.hid ((BB.out.alloc BB.out.size _).trans (h2.mono (BB.out.alloc BB.out.size _).size))
        clear h2 HQ
        go_wp2_with fail
        refine (HQ2.out _ _ _ (OwnP.lit Z3 [(a4, a5)] (by simp)).reads).mono ?_
        rintro e Z4 ⟨rfl, h2⟩
        have BB4 := Lib.hid ((BB3.out.alloc BB3.out.size _).trans (h2.mono (BB3.out.alloc BB3.out.size _).size))
        clear h2
        cases b2
        all_goals
          go_wp2_with fail
          go_ret
          exact ⟨rfl, BB4.out⟩

end Go.Proofs.Ytkbcepgnjoeneaa
