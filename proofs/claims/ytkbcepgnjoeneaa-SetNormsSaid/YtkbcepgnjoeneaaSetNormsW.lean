/- The law SetNorms, walked. -/
import Derived.Test.YtkbcepgnjoeneaaSetX
namespace Go.Proofs.Ytkbcepgnjoeneaa
open Go Go.RowKit
set_option linter.unusedVariables false
set_option linter.unusedSimpArgs false

/-- The four numbers that are asked for. -/
def atV (x1 x2 : Int) (j : Nat) : Int := if j = 0 then x1 else if j = 1 then x2 else if j = 2 then 0 else 1114111
theorem atV_in {x1 x2 : Int} (h1 : 0 ≤ x1 ∧ x1 < 70) (h2 : 0 ≤ x2 ∧ x2 < 1114112) (j : Nat) : 0 ≤ atV x1 x2 j ∧ atV x1 x2 j ≤ 1114111 := by
  unfold atV; split
  · omega
  · split
    · omega
    · split <;> omega
theorem hasB_snoc (l : List (Int × Int)) (k : Nat) (x : Int) (hk : k < l.length) : hasB (l.take (k + 1)) x = (hasB (l.take k) x || (decide ((l.getD k (0, 0)).1 ≤ x) && decide (x ≤ (l.getD k (0, 0)).2))) := by
  have e : l.getD k (0, 0) = l[k] := by simp [List.getD, List.getElem?_eq_getElem hk]
  rw [e, List.take_succ_eq_append_getElem hk]
  unfold hasB
  rw [Bool.eq_iff_iff]
  simp only [Bool.or_eq_true, Bool.and_eq_true, decide_eq_true_eq]
  rw [inS_append, inS_one]
theorem lit4 (w : World) (x0 x1 x2 x3 : Value) (t : TypeId) (o : Nat) (x : Value) (h : #[x0, x1, x2, x3][o]? = some x) : (w.alloc (.cells #[x0, x1, x2, x3] t)).cell? ⟨w.heap.size, o, none⟩ = some x := by
  rw [World.cell?_alloc_at _ _ _ _ rfl]; exact h
theorem norm_y {w : World} {v : Value} {n : Nat} {l : List (Int × Int)} (h : ReadsP w v n l) (hn : n ≤ 1000000) : ∃ L, Rt L ∧ (∀ x, inS L x ↔ inS l x ∧ InU x) ∧ L = normL l ∧ Calls Try.prog 14 #[v] w (Tells w L) :=
  ⟨_, normL_rt l, normL_in l, rfl, norm_any h (by omega)⟩
set_option maxRecDepth 100000 in
set_option maxHeartbeats 8000000 in
theorem setNorms_walk (a0 : Option Addr) (len0 cap0 : Nat) (z0 : List Int) (a1 : Int) (a2 : Int) (a3 : Int) (w : World) (w0 : IsRow .i64 w a0 len0 cap0 z0) (w1 : (Lit.int .i64 a1).wf = true) (w2 : (Lit.int .i64 a2).wf = true) (w3 : (Lit.int .i64 a3).wf = true) :
    Calls Try.prog 3 #[.slice a0 len0 cap0, .int .i64 a1, .int .i64 a2, .int .i64 a3] w fun e w' => e = .returned (.bool true) ∧ Below w.heap.size w w' := by
  have Q0 := Lib.hid w0; clear w0
  obtain ⟨LA, HLA, MA⟩ : ∃ A, Rt A ∧ ∀ w', IsRow .i64 w' a0 len0 cap0 z0 → Calls Try.prog 20 #[.slice a0 len0 cap0] w' (Tells w' A) := ⟨_, mkS_rt z0 len0, fun w' h => make_any h⟩
  replace HLA := Lib.hid HLA; replace MA := Lib.hid MA
  have F1 := Lib.hid w1; clear w1
  have F2 := Lib.hid w2; clear w2
  have F3 := Lib.hid w3; clear w3
  have BB : Hid (Below w.heap.size w w) := Lib.hid (Below.refl _ _)
  go_enter Try.func3, Try.ntmps3
  go_wp2_with fail
  have hq := known_any w
  refine hq.mono ?_
  rintro e W1 ⟨rfl, h2⟩
  clear hq
  replace Q0 := Lib.hid (IsRow.below Q0.out h2)
  replace BB := Lib.hid (BB.out.trans (h2.mono BB.out.size))
  clear h2
  go_wp2_with fail
  obtain ⟨LX, hlx, hq⟩ : ∃ L, L.length ≤ 12 ∧ Calls Try.prog 13 #[.slice a0 len0 cap0] _ (Tells _ L) := ⟨_, rawA_len z0 len0, raw_any Q0.out⟩
  refine hq.mono ?_
  rintro e W2 ⟨VX, rfl, h1, h2⟩
  clear hq Q0
  have OX := Lib.hid (h1.more BB.out.size)
  replace BB := Lib.hid (BB.out.trans (h2.mono BB.out.size))
  clear h1 h2
  have hz2 := BB.out.size
  obtain ⟨AdX, CpX, eX, -, -, -⟩ := OX.out.reads.form
  subst eX
  go_wp2_with (at_builtin; refine wpList_pushP rfl (.tmp 18) (.tmp 22) rfl w.heap.size _ _ _ _ _ _ (by rfl) OX.out _ (by rfl) rfl (by omega) hz2 ?_
               intro g1 c1 W3 hp1
               have OL := Lib.hid hp1.own
               replace BB := Lib.hid (hp1.below BB.out (Nat.le_refl _) hz2)
               clear hp1)
  have hc13 := OL.out.reads.form
  obtain ⟨ax, cx, ex, hcx1, hcx2, hcx3⟩ := hc13
  simp only [Value.slice.injEq, true_and] at ex
  obtain ⟨ex1, ex2⟩ := ex
  subst ex2
  have RL := Lib.hid OL.out.reads
  clear OL OX ex1
  obtain ⟨nl, hnl⟩ : ∃ nl, nl = LX.length + 1 := ⟨_, rfl⟩
  rw [← hnl] at RL hcx1 hcx3 ⊢
  have hnl13 : nl ≤ 13 := by omega
  have HNL := Lib.hid hcx3
  clear hnl hcx3 hlx
  generalize LX ++ [(a1, a2)] = LL at *
  obtain ⟨LN, rn, mn, en, hq⟩ := norm_y RL.out (by omega)
  have HLN := Lib.hid rn; have MN := Lib.hid mn; have EN := Lib.hid en; clear rn mn en
  refine hq.mono ?_
  rintro e W4 ⟨VN, rfl, h1, h2⟩
  clear hq
  replace RL := Lib.hid (RL.out.below h2)
  replace BB := Lib.hid (BB.out.trans (h2.mono BB.out.size))
  have RN := Lib.hid h1.reads
  clear h1 h2
  obtain ⟨AdN, CpN, eN, -, -, -⟩ := RN.out.form
  subst eN
  go_wp2_with fail
  have hq := rnorm_any RL.out (by omega)
  rw [← EN.out] at hq
  refine hq.mono ?_
  rintro e W5 ⟨VP, rfl, h1, h2⟩
  clear hq
  replace RL := Lib.hid (RL.out.below h2)
  replace RN := Lib.hid (RN.out.below h2)
  replace BB := Lib.hid (BB.out.trans (h2.mono BB.out.size))
  have RP := Lib.hid h1.reads
  clear h1 h2
  go_wp2_with fail
  refine (same_x RN.out RP.out rfl).mono ?_
  rintro e W6 ⟨rfl, h2⟩
  clear RP
  replace RL := Lib.hid (RL.out.below h2)
  replace RN := Lib.hid (RN.out.below h2)
  replace BB := Lib.hid (BB.out.trans (h2.mono BB.out.size))
  clear h2
  go_wp2_with fail
  refine (right_x RN.out HLN.out).mono ?_
  rintro e W7 ⟨rfl, h2⟩
  replace RL := Lib.hid (RL.out.below h2)
  replace RN := Lib.hid (RN.out.below h2)
  replace BB := Lib.hid (BB.out.trans (h2.mono BB.out.size))
  clear h2
  have hw1 := wth_bd a3 70 (by omega)
  have hw2 := wth_bd a3 1114112 (by omega)
  go_wp2_with (go_at_call 18; refine (within_any _ _ (by omega) (by omega) _).mono ?_; rintro e w' ⟨rfl, rfl⟩)
  generalize wth a3 70 = x1 at *
  generalize wth a3 1114112 = x2 at *
  have HIN := Lib.hid (atV_in hw1 hw2)
  have CAT : Hid (∀ j, j < 4 → (W7.alloc (.cells #[.int .i64 x1, .int .i64 x2, .int .i64 0, .int .i64 1114111] 3)).cell? ⟨W7.heap.size, j, none⟩ = some (.int .i64 (atV x1 x2 j))) := Lib.hid (fun j hj => lit4 W7 _ _ _ _ _ j _ (by
    match j, hj with
    | 0, _ => rfl
    | 1, _ => rfl
    | 2, _ => rfl
    | 3, _ => rfl))
  replace RL := Lib.hid (RL.out.alloc (.cells #[.int .i64 x1, .int .i64 x2, .int .i64 0, .int .i64 1114111] 3))
  replace RN := Lib.hid (RN.out.alloc (.cells #[.int .i64 x1, .int .i64 x2, .int .i64 0, .int .i64 1114111] 3))
  replace BB := Lib.hid (BB.out.alloc BB.out.size (.cells #[.int .i64 x1, .int .i64 x2, .int .i64 0, .int .i64 1114111] 3))
  generalize W7.alloc (.cells #[.int .i64 x1, .int .i64 x2, .int .i64 0, .int .i64 1114111] 3) = W8 at *
  generalize W7.heap.size = gb at *
  generalize hnn : LN.length = nn at *
  have HNN := Lib.hid hnn; clear hnn
  go_loopw [12] (fun i wr => ∃ j : Nat, j ≤ 4 ∧ i = .int .i64 j ∧ Hid (∀ j, j < 4 → wr.cell? ⟨gb, j, none⟩ = some (.int .i64 (atV x1 x2 j))) ∧ Hid (ReadsP wr (.slice (some ⟨g1, 0, none⟩) nl c1) nl LL) ∧ Hid (ReadsP wr (.slice AdN nn CpN) nn LN) ∧ Hid (Below w.heap.size w wr)) (fun i _ => 4 - (intOf i).toNat)
  case atStart => exact ⟨0, by omega, rfl, CAT, RL, RN, BB⟩
  case round =>
    clear CAT RL RN BB
    obtain ⟨j, hj, rfl, CAT, RL, RN, BB⟩ := hrel
    by_cases hj4 : j < 4
    · have cj := CAT.out j hj4
      have hin := HIN.out j
      generalize atV x1 x2 j = x at *
      have i0 : (0 : Int) ≤ (j : Int) := Int.natCast_nonneg _
      have i1 : (j : Int) < 4 := by omega
      have HX := Lib.hid (show hasB LN x = hasB LL x by
        unfold hasB; rw [decide_eq_decide, MN.out x]; exact ⟨fun h => h.1, fun h => ⟨h, hin⟩⟩)
      go_wp2_with fail
      go_loopw [13, 14] (fun b i w9 => ∃ (k d : Nat) (bb : Bool), k ≤ nl ∧ i = .int .i64 k ∧ b = .bool bb ∧ Hid (bb = hasB (LL.take k) x) ∧ w9 = wr.drewN d) (fun _ i _ => nl - (intOf i).toNat)
      case atStart => exact ⟨0, 0, false, Nat.zero_le _, rfl, rfl, Lib.hid rfl, rfl⟩
      case round =>
        obtain ⟨k, d, bb, hk, rfl, rfl, HBB, rfl⟩ := hrel
        by_cases hkl : k < nl
        · obtain ⟨b, off, e, hbl, y1, y2⟩ := RL.out.at k hkl
          simp only [Option.some.injEq, Addr.mk.injEq] at e
          obtain ⟨rfl, rfl, _⟩ := e
          simp only [Nat.zero_add] at y1 y2
          have HS := Lib.hid (hasB_snoc LL k x (by rw [HNL.out]; exact hkl))
          generalize (LL.getD k (0, 0)).1 = p at *
          generalize (LL.getD k (0, 0)).2 = q at *
          have k0 : (0 : Int) ≤ (k : Int) := Int.natCast_nonneg _
          have k1 : (k : Int) < (nl : Int) := by omega
          cases bb with
          | true =>
            go_wp2_with fail
            go_quiet (fail)
            go_wp2_with fail
            exact ⟨⟨k + 1, _, true, by omega, by go_num, rfl, Lib.hid (by rw [HS.out, ← HBB.out]; rfl), rfl⟩, by simp [intOf]; omega⟩
          | false =>
            by_cases hp : p ≤ x
            · by_cases hq : x ≤ q
              · go_wp2_with fail
                go_quiet (fail)
                go_wp2_with fail
                exact ⟨⟨k + 1, _, true, by omega, by go_num, by first | rfl | simp [hp, hq], Lib.hid (by rw [HS.out, ← HBB.out]; simp [hp, hq]), rfl⟩, by simp [intOf]; omega⟩
              · have hq' : q < x := by omega
                go_wp2_with fail
                go_quiet (fail)
                go_wp2_with fail
                exact ⟨⟨k + 1, _, false, by omega, by go_num, by first | rfl | simp [hp, hq], Lib.hid (by rw [HS.out, ← HBB.out]; simp; intro _; omega), rfl⟩, by simp [intOf]; omega⟩
            · have hp' : x < p := by omega
              have t1 : decide (p ≤ x) = false := by simpa using hp
              go_wp2_with fail
              go_quiet (fail)
              go_wp2_with fail
              exact ⟨⟨k + 1, _, false, by omega, by go_num, rfl, Lib.hid (by rw [HS.out, ← HBB.out]; simp; intro _; omega), rfl⟩, by simp [intOf]; omega⟩
        · obtain rfl : k = nl := by omega
          have HF := Lib.hid (show hasB LN x = bb by rw [HX.out, HBB.out, List.take_of_length_le (by rw [HNL.out]; exact Nat.le_refl _)])
          go_wp2_with fail
          have hq := has_any (x := x) (ReadsP.drewN RN.out d) HLN.out
          rw [HF.out] at hq
          refine hq.mono ?_
          rintro e W9 ⟨rfl, h2⟩
          clear hq
          have CAT9 : Hid (∀ j, j < 4 → W9.cell? ⟨gb, j, none⟩ = some (.int .i64 (atV x1 x2 j))) := Lib.hid (fun j hj => (h2.cell (p := ⟨gb, j, none⟩) (World.block_lt_of_cell? _ _ (CAT.out j hj))).trans (CAT.out j hj))
          have RL9 := Lib.hid ((ReadsP.drewN RL.out d).below h2)
          have RN9 := Lib.hid ((ReadsP.drewN RN.out d).below h2)
          have BB9 := Lib.hid ((BB.out.drewN' d).trans (h2.mono BB.out.size))
          clear h2 cj
          cases bb
          · go_wp2_with fail
            exact ⟨⟨j + 1, by omega, by go_num, CAT9, RL9, RN9, BB9⟩, by simp [intOf]; omega⟩
          · go_wp2_with fail
            exact ⟨⟨j + 1, by omega, by go_num, CAT9, RL9, RN9, BB9⟩, by simp [intOf]; omega⟩
    · go_wp2_with fail
      have hq := norm_x RN.out HLN.out
      refine hq.mono ?_
      rintro e W9 ⟨VZ, rfl, h1, h2⟩
      clear hq
      have RZ := Lib.hid h1.reads
      have RN9 := Lib.hid (RN.out.below h2)
      have BB9 := Lib.hid (BB.out.trans (h2.mono BB.out.size))
      clear h1 h2
      go_wp2_with fail
      have hnn2 := HNN.out
      subst hnn2
      refine (same_x RZ.out RN9.out rfl).mono ?_
      rintro e W10 ⟨rfl, h2⟩
      have BB10 := Lib.hid (BB9.out.trans (h2.mono BB9.out.size))
      clear h2
      go_wp2_with fail
      go_ret
      exact ⟨rfl, BB10.out⟩

end Go.Proofs.Ytkbcepgnjoeneaa
