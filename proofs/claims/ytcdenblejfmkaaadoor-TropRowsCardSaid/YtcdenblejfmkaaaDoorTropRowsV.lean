/- The law TropRows returns true, whatever its numbers. -/
import Derived.Test.YtcdenblejfmkaaaDoorTropRowsW
import Derived.Test.YtcdenblejfmkaaaDoorLastFree
namespace Go.Proofs.YtcdenblejfmkaaaDoor
open Go.RowKit
set_option linter.unusedVariables false
set_option linter.unusedSimpArgs false

theorem run_enter {P : Program} {f : FuncId} {fn : Func} (hf : P.funcs[f]? = some fn) (hname : (fn.name == "runtime.NumGoroutine") = false) (hb : fn.body.isNone = false) (args : Array Value) (w : World) :
    (callFunc f args).run P w = .ok (.enter f args) w := by
  have h1 : fn.name ≠ "runtime.NumGoroutine" := by simpa using hname
  have h3 : ¬ fn.body = none := by intro h; simp [h] at hb
  simp [callFunc, hf, h1, h3, mark, Sem.run]

theorem wp_enter {P : Program} {dst : Option Tmp} {xs : Array Operand} {ats : Array TypeId} {ty : TypeId} {pos : String} {after : Array Edge} {guard : Option (Nat × Bool)} {a : Act} {w : World} {next : Act → World → Prop} {Q : Exit → Act → World → Prop} {R : World → Prop} {f : FuncId} {fn : Func} {v : Value} (args : Array Value)
    (hf : P.funcs[f]? = some fn) (hname : (fn.name == "runtime.NumGoroutine") = false) (hb : fn.body.isNone = false) (ha : #[] ++ xs.map a.eval ++ #[] = args)
    (hc : Calls P f args w fun e w' => e = .returned v ∧ R w') (hR : ∀ w', R w' → next (a.put dst v) w') :
    Oper.wp P { dst, op := .call { callee := .value (.func f), args := xs, argTypes := ats }, type := ty, pos, after, guard } a w next Q := by
  unfold Oper.wp
  rw [execOp_call_go, ha, run_enter hf hname hb, Oper.upon_enter]
  refine hc.mono ?_
  rintro e w' ⟨rfl, h⟩
  exact hR w' h

theorem sKept {w w' : World} {b o q : Nat} {u x y z : Value} (hb : b < w.heap.size) (hq : q < w.heap.size) (hB : Below w.heap.size w w')
    (h : w.cell? ⟨b, o, none⟩ = some u ∧ w.cell? ⟨q, 0, none⟩ = some x ∧ w.cell? ⟨q, 1, none⟩ = some y ∧ w.cell? ⟨q, 2, none⟩ = some z) :
    w'.cell? ⟨b, o, none⟩ = some u ∧ w'.cell? ⟨q, 0, none⟩ = some x ∧ w'.cell? ⟨q, 1, none⟩ = some y ∧ w'.cell? ⟨q, 2, none⟩ = some z := by
  have hc := (bcell hB).1
  rw [hc _ _ hb, hc _ _ hq, hc _ _ hq, hc _ _ hq]
  exact h

theorem Own.setBelow {w : World} {B n : Nat} {v : Value} {l : List Int} (h : Own w B v n l) {p : Addr} (hp : p.block < B) (u : Value) : Own (w.setCell p u) B v n l := by
  obtain ⟨h1, h2⟩ := h
  refine ⟨h1, ?_⟩
  rcases h2 with h2 | ⟨g, cap, cur, rfl, hg, hh, r⟩
  · exact .inl h2
  · exact .inr ⟨g, cap, cur, rfl, hg, by rw [Below.heap_setCell _ _ _ _ (by omega)]; exact hh, r⟩


theorem anyX_g {P : Program} {ops : Array Oper} {Q : Exit → Act → World → Prop} {md : Region.Mode} {S : World → Prop} {m i : Nat} {o : Oper} {fuel : Nat} {listed : Array Bool} {a : Act} {w : World} (hr : Region.ready md ops listed = [i]) (hm : i ≠ m) (ho : ops[i]? = some o) (hw : Region.wanted o (yielded ops a.tmps) = true)
    (h : ∀ K' : Act → World → Prop, (∀ a w, S w → anyX P md ops Q S m fuel (listed.setIfInBounds i true) a w → K' a w) → Oper.wp P o a w K' Q) : anyX P md ops Q S m (fuel + 1) listed a w := by
  refine ⟨fun h0 => (by rw [hr] at h0; cases h0), fun j hj => ?_⟩
  rw [hr] at hj
  obtain rfl : j = i := by simpa using hj
  unfold wpOp
  rw [ho]
  simp only [hw, if_true]
  exact .inl (h _ fun a w hS hx => ⟨fun _ => hS, hx⟩)

theorem wp_append_row {w : World} {o : Oper} {a : Act} {K : Act → World → Prop} {Q : Exit → Act → World → Prop} (hgd : o.guard = none) (s x : Operand)
    (ho : o.op = .call { callee := .builtin .append, args := #[s, x], argTypes := #[22, 22] })
    (base : Nat) (v : Value) (n : Nat) (xs : List Int) (hs : a.eval s = v) (hown : Own w base v n xs)
    (base2 : Nat) (u : Value) (m : Nat) (ys : List Int) (hx : a.eval x = u) (hown2 : Own w base2 u m ys)
    (hnm : n + m ≤ 1000) (hbase : base ≤ w.heap.size)
    (h : ∀ v' w', Own w' base v' (n + m) (xs ++ ys) → Below base w w' → K (a.put o.dst v') w') :
    Oper.wp Tryd.prog o a w K Q := by
  obtain ⟨i0, hi, hz0, hz1, hz2⟩ := info_parts info_int
  have h := step_append_row (ops := #[]) (Q := Q) (E := True) hgd s x ho i0 hi hz0 hz1 hz2 base v n xs hs hown base2 u m ys hx hown2 hnm hbase h
  rwa [if_pos (by simp [Region.wanted, hgd])] at h

theorem Own.empty {w : World} {B : Nat} (hB : B ≤ w.heap.size) : Own (w.alloc (.cells #[] 3)) B (.slice (some ⟨w.heap.size, 0, none⟩) 0 0) 0 [] :=
  ⟨rfl, .inr ⟨w.heap.size, 0, #[], rfl, hB, heap_alloc_new w _, by simp [maxLen]⟩⟩

set_option maxRecDepth 100000 in
set_option maxHeartbeats 4000000 in
theorem rows_walk (a0 : Option Addr) (len0 cap0 : Nat) (z0 : List Int) (a1 : Option Addr) (len1 cap1 : Nat) (z1 : List Int) (w : World) (w0 : IsRow .i64 w a0 len0 cap0 z0) (w1 : IsRow .i64 w a1 len1 cap1 z1) (ht : Tab w) :
    Calls Tryd.prog 3 #[.slice a0 len0 cap0, .slice a1 len1 cap1] w fun e w' => e = .returned (.bool true) ∧ Below w.heap.size w w' := by
  have hle0 := w0.len_le
  have hle1 := w1.len_le
  have HROW0 := Lib.hid w0; have HROW1 := Lib.hid w1; have HT := Lib.hid ht; clear w0 w1 ht
  go_enter Tryd.func3, Tryd.ntmps3
  go_wp2_with fail
  refine (known_any _ HT.out).mono ?_
  rintro e w1 ⟨rfl, hb1⟩
  have HB1 := Lib.hid hb1; clear hb1
  go_wp2_with fail
  refine (none_any _).mono ?_
  rintro e w2 ⟨rfl, hb2⟩
  have HB2 := Lib.hid (HB1.out.trans (hb2.mono HB1.out.size)); clear hb2 HB1
  have hws := HB2.out.size
  go_wp2_with fail
  go_loopw [5, 8] (fun v i wr => ∃ k : Nat, k ≤ len0 ∧ k ≤ 12 ∧ i = .int .i64 k ∧ Own wr (w2.heap.size + 1) v k (costs z0 k) ∧ (∃ y z, VecAt wr w2.heap.size (least (costs z0 k)) y z) ∧ Below w.heap.size w wr ∧ w2.heap.size + 1 ≤ wr.heap.size) (fun _ i _ => len0 - (intOf i).toNat)
  case atStart => exact ⟨0, Nat.zero_le _, by omega, rfl, Own.nil _ _, ⟨1152921504606846976, 1152921504606846976, by rw [show least (costs z0 0) = 1152921504606846976 from rfl]; simp [go_sem], by simp [go_sem], by simp [go_sem], fun o => by simp [go_sem], by simp⟩, HB2.out.alloc HB2.out.size _, by simp⟩
  case round =>
    obtain ⟨k, hk, hk12, rfl, hv, ⟨y, z, hva⟩, hB, hsz⟩ := hrel
    have k0 : (0 : Int) ≤ (k : Int) := Int.natCast_nonneg _
    by_cases hgo : k < len0 ∧ k < 12
    · obtain ⟨hlt, h12⟩ := hgo
      obtain ⟨b, off, rfl, hbs, hc, hwf⟩ := HROW0.out.at k hlt
      have hx : wr.cell? ⟨b, off + k, none⟩ = some (.int .i64 (z0.getD k 0)) := by rw [(bcell hB).1 _ _ hbs]; exact hc k hlt
      have WX := Lib.hid (hwf k hlt)
      have HCS := Lib.hid (costs_succ z0 k (by omega))
      have HCC := costs_cost z0 k
      have HL := Lib.hid (lesser_least (costs z0 k) (cost (z0.getD k 0)) HCC)
      have HV := Lib.hid hv; have HB := Lib.hid hB; have HVA := Lib.hid hva
      clear hc hwf hv hB hva HCC
      generalize z0.getD k 0 = x at *
      have k1 : (k : Int) < (len0 : Int) := by omega
      have hbB : b < w2.heap.size := by omega
      have hV3 := fun w => vec_wrap x w WX.out
      have HV3 := Lib.hid hV3; clear hV3
      go_wp2_with fail
      refine (cost_any x _ WX.out).mono ?_; rintro e w' ⟨rfl, rfl⟩
      go_wp2_with (at_builtin; refine wpList_push rfl (.tmp 25) (.tmp 31) rfl (w2.heap.size + 1) wr u5 k (costs z0 k) (cost x) (by rfl) HV.out (by rfl) (by omega) hsz ?_
                   intro g1 c1 w3 hp1
                   have HP1 := Lib.hid hp1.own
                   have hB3 := hp1.below (Below.refl (w2.heap.size + 1) wr) (Nat.le_refl _) hsz
                   clear hp1)
      have hva3 := HVA.out.belowB (Nat.lt_succ_self _) hB3
      obtain ⟨hx3, hsz3⟩ := keepRow (show b < w2.heap.size + 1 by omega) ⟨hx, hsz⟩ hB3
      have HBW3 := Lib.hid (HB.out.trans (hB3.mono (by omega)))
      have HVA3 := Lib.hid hva3
      obtain ⟨c0, c1', c2, fz, zz⟩ := hva3
      have hS : (fun w' : World => w'.cell? ⟨b, off + k, none⟩ = some (.int .i64 x) ∧ w'.cell? ⟨w2.heap.size, 0, none⟩ = some (.int .i64 (least (costs z0 k))) ∧ w'.cell? ⟨w2.heap.size, 1, none⟩ = some (.int .i64 y) ∧ w'.cell? ⟨w2.heap.size, 2, none⟩ = some (.int .i64 z)) w3.drew := ⟨hx3, c0, c1', c2⟩
      generalize least (costs z0 k) = lk at *
      clear hB3
      refine region_x 17 (fun w' : World => w'.cell? ⟨b, off + k, none⟩ = some (.int .i64 x) ∧ w'.cell? ⟨w2.heap.size, 0, none⟩ = some (.int .i64 lk) ∧ w'.cell? ⟨w2.heap.size, 1, none⟩ = some (.int .i64 y) ∧ w'.cell? ⟨w2.heap.size, 2, none⟩ = some (.int .i64 z)) (by kernel_rfl) ?_
      refine anyX_take (i := 0) (v := ?_) rfl (by kernel_rfl) (by kernel_rfl) (by kernel_rfl) (by kernel_rfl) (fun _ _ _ h => h) (Or.inl ⟨by rfl, ?_⟩) hS ?_
      rotate_left
      · intro w' hSw
        (try dsimp only at hSw)
        go_simp
        try with_reducible rfl
      try simp only [Act.put, List.getElem_toArray, List.getElem_cons_succ, List.getElem_cons_zero, List.setIfInBounds_toArray, List.set_cons_zero, List.set_cons_succ]
      refine anyX_take (i := 1) (v := ?_) rfl (by kernel_rfl) (by kernel_rfl) (by kernel_rfl) (by kernel_rfl) (fun _ _ _ h => h) (Or.inl ⟨by rfl, ?_⟩) hS ?_
      rotate_left
      · intro w' hSw
        (try dsimp only at hSw)
        go_simp
        try with_reducible rfl
      try simp only [Act.put, List.getElem_toArray, List.getElem_cons_succ, List.getElem_cons_zero, List.setIfInBounds_toArray, List.set_cons_zero, List.set_cons_succ]
      refine anyX_take (i := 2) (v := ?_) rfl (by kernel_rfl) (by kernel_rfl) (by kernel_rfl) (by kernel_rfl) (fun _ _ _ h => h) (Or.inl ⟨by rfl, ?_⟩) hS ?_
      rotate_left
      · intro w' hSw
        (try dsimp only at hSw)
        go_simp
        try with_reducible rfl
      try simp only [Act.put, List.getElem_toArray, List.getElem_cons_succ, List.getElem_cons_zero, List.setIfInBounds_toArray, List.set_cons_zero, List.set_cons_succ]
      refine anyX_take (i := 3) (v := ?_) rfl (by kernel_rfl) (by kernel_rfl) (by kernel_rfl) (by kernel_rfl) (fun _ _ _ h => h) (Or.inl ⟨by rfl, ?_⟩) hS ?_
      rotate_left
      · intro w' hSw
        (try dsimp only at hSw)
        go_simp
        try with_reducible rfl
      try simp only [Act.put, List.getElem_toArray, List.getElem_cons_succ, List.getElem_cons_zero, List.setIfInBounds_toArray, List.set_cons_zero, List.set_cons_succ]
      refine anyX_take (i := 4) (v := ?_) rfl (by kernel_rfl) (by kernel_rfl) (by kernel_rfl) (by kernel_rfl) (fun _ _ _ h => h) (Or.inl ⟨by rfl, ?_⟩) hS ?_
      rotate_left
      · intro w' hSw
        (try dsimp only at hSw)
        go_simp
        try with_reducible rfl
      try simp only [Act.put, List.getElem_toArray, List.getElem_cons_succ, List.getElem_cons_zero, List.setIfInBounds_toArray, List.set_cons_zero, List.set_cons_succ]
      refine anyX_take (i := 5) (v := ?_) rfl (by kernel_rfl) (by kernel_rfl) (by kernel_rfl) (by kernel_rfl) (fun _ _ _ h => h) (Or.inl ⟨by rfl, ?_⟩) hS ?_
      rotate_left
      · intro w' hSw
        (try dsimp only at hSw)
        go_simp
        try with_reducible rfl
      try simp only [Act.put, List.getElem_toArray, List.getElem_cons_succ, List.getElem_cons_zero, List.setIfInBounds_toArray, List.set_cons_zero, List.set_cons_succ]
      refine anyX_take (i := 6) (v := ?_) rfl (by kernel_rfl) (by kernel_rfl) (by kernel_rfl) (by kernel_rfl) (fun _ _ _ h => h) (Or.inl ⟨by rfl, ?_⟩) hS ?_
      rotate_left
      · intro w' hSw
        (try dsimp only at hSw)
        go_simp
        try with_reducible rfl
      try simp only [Act.put, List.getElem_toArray, List.getElem_cons_succ, List.getElem_cons_zero, List.setIfInBounds_toArray, List.set_cons_zero, List.set_cons_succ]
      refine anyX_take (i := 7) (v := ?_) rfl (by kernel_rfl) (by kernel_rfl) (by kernel_rfl) (by kernel_rfl) (fun _ _ _ h => h) (Or.inl ⟨by rfl, ?_⟩) hS ?_
      rotate_left
      · intro w' hSw
        (try dsimp only at hSw)
        go_simp
        try with_reducible rfl
      try simp only [Act.put, List.getElem_toArray, List.getElem_cons_succ, List.getElem_cons_zero, List.setIfInBounds_toArray, List.set_cons_zero, List.set_cons_succ]
      refine anyX_take (i := 8) (v := ?_) rfl (by kernel_rfl) (by kernel_rfl) (by kernel_rfl) (by kernel_rfl) (fun _ _ _ h => h) (Or.inl ⟨by rfl, ?_⟩) hS ?_
      rotate_left
      · intro w' hSw
        (try dsimp only at hSw)
        go_simp
        try with_reducible rfl
      try simp only [Act.put, List.getElem_toArray, List.getElem_cons_succ, List.getElem_cons_zero, List.setIfInBounds_toArray, List.set_cons_zero, List.set_cons_succ]
      refine anyX_take (i := 9) (v := ?_) rfl (by kernel_rfl) (by kernel_rfl) (by kernel_rfl) (by kernel_rfl) (fun _ _ _ h => h) (Or.inl ⟨by rfl, ?_⟩) hS ?_
      rotate_left
      · intro w' hSw
        (try dsimp only at hSw)
        go_simp
        try with_reducible rfl
      try simp only [Act.put, List.getElem_toArray, List.getElem_cons_succ, List.getElem_cons_zero, List.setIfInBounds_toArray, List.set_cons_zero, List.set_cons_succ]
      refine anyX_take (i := 10) (v := ?_) rfl (by kernel_rfl) (by kernel_rfl) (by kernel_rfl) (by kernel_rfl) (fun _ _ _ h => h) (Or.inl ⟨by rfl, ?_⟩) hS ?_
      rotate_left
      · intro w' hSw
        (try dsimp only at hSw)
        go_simp
        try with_reducible rfl
      try simp only [Act.put, List.getElem_toArray, List.getElem_cons_succ, List.getElem_cons_zero, List.setIfInBounds_toArray, List.set_cons_zero, List.set_cons_succ]
      refine anyX_take (i := 11) (v := ?_) rfl (by kernel_rfl) (by kernel_rfl) (by kernel_rfl) (by kernel_rfl) (fun _ _ _ h => h) (Or.inl ⟨by rfl, ?_⟩) hS ?_
      rotate_left
      · intro w' hSw
        (try dsimp only at hSw)
        go_simp
        try with_reducible rfl
      try simp only [Act.put, List.getElem_toArray, List.getElem_cons_succ, List.getElem_cons_zero, List.setIfInBounds_toArray, List.set_cons_zero, List.set_cons_succ]
      refine anyX_take (i := 12) (v := ?_) rfl (by kernel_rfl) (by kernel_rfl) (by kernel_rfl) (by kernel_rfl) (fun _ _ _ h => h) (Or.inl ⟨by rfl, ?_⟩) hS ?_
      rotate_left
      · intro w' hSw
        (try dsimp only at hSw)
        go_simp
        try with_reducible rfl
      try simp only [Act.put, List.getElem_toArray, List.getElem_cons_succ, List.getElem_cons_zero, List.setIfInBounds_toArray, List.set_cons_zero, List.set_cons_succ]
      refine anyX_take (i := 13) (v := ?_) rfl (by kernel_rfl) (by kernel_rfl) (by kernel_rfl) (by kernel_rfl) (fun _ _ _ h => h) (Or.inl ⟨by rfl, ?_⟩) hS ?_
      rotate_left
      · intro w' hSw
        (try dsimp only at hSw)
        go_simp
        try with_reducible rfl
      try simp only [Act.put, List.getElem_toArray, List.getElem_cons_succ, List.getElem_cons_zero, List.setIfInBounds_toArray, List.set_cons_zero, List.set_cons_succ]
      refine anyX_take (i := 14) (v := ?_) rfl (by kernel_rfl) (by kernel_rfl) (by kernel_rfl) (by kernel_rfl) (fun _ _ _ h => h) (Or.inl ⟨by rfl, ?_⟩) hS ?_
      rotate_left
      · intro w' hSw
        (try dsimp only at hSw)
        go_simp
        try with_reducible rfl
      try simp only [Act.put, List.getElem_toArray, List.getElem_cons_succ, List.getElem_cons_zero, List.setIfInBounds_toArray, List.set_cons_zero, List.set_cons_succ]
      refine anyX_one (i := 15) (by kernel_rfl) (by decide) rfl rfl ?_
      intro K hK
      simp only [List.getElem_toArray, List.getElem_cons_succ, List.getElem_cons_zero]
      refine wp_enter #[.int .i64 x, .int .i64 (IntKind.i64.wrap (x.tdiv 3)), .int .i64 (IntKind.i64.wrap (x.tdiv 5))] (by rfl) (by kernel_rfl) (by kernel_rfl) ?_ (HV3.out _) ?_
      · go_simp
      intro w4 hb4
      have hsd : w2.heap.size + 1 ≤ w3.drew.heap.size := hsz3
      have hS4 := sKept (show b < w3.drew.heap.size by omega) (show w2.heap.size < w3.drew.heap.size by omega) hb4 hS
      refine hK _ _ hS4 ?_
      simp only [Act.put, List.getElem_toArray, List.getElem_cons_succ, List.getElem_cons_zero, List.setIfInBounds_toArray, List.set_cons_zero, List.set_cons_succ]
      have hsd4 : w2.heap.size + 1 ≤ w4.heap.size := Nat.le_trans hsd hb4.size
      have HB4 := Lib.hid hb4
      clear hb4 hS hK
      refine anyX_one (i := 16) (by kernel_rfl) (by decide) rfl rfl ?_
      intro K hK
      simp only [List.getElem_toArray, List.getElem_cons_succ, List.getElem_cons_zero]
      refine wp_enter #[.agg #[.int .i64 lk, .int .i64 y, .int .i64 z], .agg #[.int .i64 (cost x), .int .i64 (cost (x.tdiv 3)), .int .i64 (cost (x.tdiv 5))]] (by rfl) (by kernel_rfl) (by kernel_rfl) ?_ (both_x lk y z _ _ _ w4) ?_
      · go_simp
      intro w5 hb5
      have hS5 := sKept (show b < w4.heap.size by omega) (show w2.heap.size < w4.heap.size by omega) hb5 hS4
      refine hK _ _ hS5 ?_
      simp only [Act.put, List.getElem_toArray, List.getElem_cons_succ, List.getElem_cons_zero, List.setIfInBounds_toArray, List.set_cons_zero, List.set_cons_succ]
      have hsd5 : w2.heap.size + 1 ≤ w5.heap.size := Nat.le_trans hsd4 hb5.size
      have HB5 := Lib.hid (HB4.out.trans (hb5.mono (show w3.drew.heap.size ≤ w4.heap.size from HB4.out.size)))
      clear hb5 hS4 hK HB4
      refine anyX_last (by kernel_rfl) (by kernel_rfl) rfl rfl ?_
      simp only [List.getElem_toArray, List.getElem_cons_succ, List.getElem_cons_zero]
      obtain ⟨hx5, c0, c1'', c2⟩ := hS5
      have hva5 := HVA3.out.drew.belowB (show w2.heap.size < w3.drew.heap.size by omega) HB5.out
      have HVA5 := Lib.hid hva5
      have hf5 := hva5.f
      clear hva5
      go_simp
      apply_assumption
      go_wp2_with fail
      case roundEnd =>
        have hv6 := ((HP1.out.drew.below_top HB5.out).setBelow (p := ⟨w2.heap.size, 0, none⟩) (Nat.lt_succ_self _) (.int .i64 (lesser lk (cost x)))).setBelow (p := ⟨w2.heap.size, 1, none⟩) (Nat.lt_succ_self _) (.int .i64 (lesser y (cost (x.tdiv 3)))) |>.setBelow (p := ⟨w2.heap.size, 2, none⟩) (Nat.lt_succ_self _) (.int .i64 (lesser z (cost (x.tdiv 5))))
        have hb6 := stored_below (w := w5) (b := w2.heap.size) (.int .i64 (lesser lk (cost x))) (.int .i64 (lesser y (cost (x.tdiv 3)))) (.int .i64 (lesser z (cost (x.tdiv 5))))
        have hb7 := (HBW3.out.drew.trans (HB5.out.mono (show w.heap.size ≤ w3.drew.heap.size by omega))).trans (hb6.mono hws)
        refine ⟨⟨k + 1, by omega, by omega, by simp, ?_, ⟨lesser y (cost (x.tdiv 3)), lesser z (cost (x.tdiv 5)), ?_⟩, hb7, Nat.le_trans hsd5 hb6.size⟩, by simp [intOf]; omega⟩
        · rw [HCS.out]; exact hv6
        · rw [HCS.out, ← HL.out]; exact HVA5.out.stored _ _ _
    · have hend : len0 ≤ k ∨ (k < len0 ∧ k = 12) := by omega
      have HV := Lib.hid hv; have HB := Lib.hid hB; have HVA := Lib.hid hva
      clear hv hB hva
      have hk' : k = len0 ∨ k = 12 := by omega
      rcases hend with hend | ⟨hlt, h12⟩
      case' inl => have hd : decide ((k : Int) < (len0 : Int)) = false := by simp; omega
      case' inr =>
        have hd1 : (k : Int) < (len0 : Int) := by omega
        have hd : decide ((k : Int) < 12) = false := by simp; omega
        clear h12
      all_goals
        generalize wr = wk at *
        go_wp2_with fail
        go_loopw [6, 9] (fun v i wm => ∃ j : Nat, j ≤ len1 ∧ j ≤ 12 ∧ i = .int .i64 j ∧ Own wm wk.heap.size v j (costs z1 j) ∧ Below wk.heap.size wk wm) (fun _ i _ => len1 - (intOf i).toNat)
        case atStart => exact ⟨0, Nat.zero_le _, by omega, rfl, Own.nil _ _, Below.refl _ _⟩
        case round =>
          obtain ⟨j, hj, hj12, rfl, hv, hB⟩ := hrel
          have j0 : (0 : Int) ≤ (j : Int) := Int.natCast_nonneg _
          by_cases hgo : j < len1 ∧ j < 12
          · obtain ⟨hlt, h12⟩ := hgo
            have hwr : w.heap.size ≤ wk.heap.size := HB.out.size
            obtain ⟨b, off, rfl, hbs, hc, hwf⟩ := HROW1.out.at j hlt
            have hx := hc j hlt
            rw [← (bcell HB.out).1 _ _ hbs, ← (bcell hB).1 _ _ (Nat.lt_of_lt_of_le hbs hwr)] at hx
            have WX := Lib.hid (hwf j hlt)
            have HCS := Lib.hid (costs_succ z1 j (by omega))
            have HW := Lib.hid hv; have HC := Lib.hid hB
            clear hc hwf hv hB
            generalize z1.getD j 0 = x at *
            have j1 : (j : Int) < (len1 : Int) := by omega
            go_wp2_with fail
            refine (cost_any x _ WX.out).mono ?_; rintro e w' ⟨rfl, rfl⟩
            go_wp2_with (at_builtin; refine wpList_push rfl (.tmp 60) (.tmp 66) rfl wk.heap.size wr u6 j (costs z1 j) (cost x) (by rfl) HW.out (by rfl) (by omega) HC.out.size ?_
                         intro g1 c1 w3 hp1
                         have HP1 := Lib.hid hp1.own
                         have HB3 := Lib.hid (hp1.below HC.out (Nat.le_refl _) HC.out.size)
                         clear hp1)
            refine ⟨⟨j + 1, by omega, by omega, by simp, ?_, HB3.out⟩, by simp [intOf]; omega⟩
            rw [HCS.out]; exact HP1.out
          · have hend1 : len1 ≤ j ∨ (j < len1 ∧ j = 12) := by omega
            have HW := Lib.hid hv; have HC := Lib.hid hB
            clear hv hB
            rcases hend1 with hend1 | ⟨hlt1, h121⟩
            case' inl => have he : decide ((j : Int) < (len1 : Int)) = false := by simp; omega
            case' inr =>
              have he1 : (j : Int) < (len1 : Int) := by omega
              have he : decide ((j : Int) < 12) = false := by simp; omega
              clear h121
            all_goals
              generalize wr = wm at *
              go_wp2_with fail
              go_loopw [10, 11] (fun n i wq => ∃ i' : Nat, i' ≤ len0 ∧ i' ≤ 12 ∧ i = .int .i64 i' ∧ n = .int .i64 (least (costs z0 i')) ∧ Below wm.heap.size wm wq) (fun _ i _ => len0 - (intOf i).toNat)
              case atStart => exact ⟨0, Nat.zero_le _, by omega, rfl, rfl, Below.refl _ _⟩
              case round =>
                obtain ⟨i, hi, hi12, rfl, rfl, hB⟩ := hrel
                have i0 : (0 : Int) ≤ (i : Int) := Int.natCast_nonneg _
                by_cases hgo : i < len0 ∧ i < 12
                · obtain ⟨hlt, h12⟩ := hgo
                  have hwr : w.heap.size ≤ wk.heap.size := HB.out.size
                  obtain ⟨b, off, rfl, hbs, hc, hwf⟩ := HROW0.out.at i hlt
                  have hx := hc i hlt
                  rw [← (bcell HB.out).1 _ _ hbs, ← (bcell HC.out).1 _ _ (Nat.lt_of_lt_of_le hbs hwr), ← (bcell hB).1 _ _ (Nat.lt_of_lt_of_le hbs (Nat.le_trans hwr HC.out.size))] at hx
                  have WX := Lib.hid (hwf i hlt)
                  have HCS := Lib.hid (costs_succ z0 i (by omega))
                  have HSN := Lib.hid (least_snoc (costs z0 i) (cost (z0.getD i 0)))
                  have HD := Lib.hid hB
                  clear hc hwf hB
                  generalize z0.getD i 0 = x at *
                  have i1 : (i : Int) < (len0 : Int) := by omega
                  go_wp2_with fail
                  refine (cost_any x _ WX.out).mono ?_; rintro e w' ⟨rfl, rfl⟩
                  go_wp2_with fail
                  refine ⟨⟨i + 1, by omega, by omega, by simp, ?_, HD.out⟩, by simp [intOf]; omega⟩
                  rw [HCS.out, HSN.out]
                  refine congrArg _ ?_
                  split <;> omega
                · obtain rfl : i = k := by omega
                  have HD := Lib.hid hB
                  clear hB
                  go_wp2_with fail
                  have hL := ((HV.out.below_top HC.out).below_top HD.out).drew
                  have hM := (HW.out.below_top HD.out).drew
                  have hwk := HC.out.size
                  have hwm := HD.out.size
                  have hS := ((HVA.out.belowB (show w2.heap.size < wk.heap.size by omega) HC.out).belowB (show w2.heap.size < wm.heap.size by omega) HD.out).drew.c0
                  have HBF := Lib.hid ((HB.out.trans (HC.out.mono HB.out.size)).trans (HD.out.mono (Nat.le_trans HB.out.size hwk))).drew
                  have HA := Lib.hid (least_append (costs z0 i) (costs z1 j) (costs_cost z0 i) (costs_cost z1 j))
                  have hwd : wm.heap.size ≤ wr.drew.heap.size := hwm
                  refine region_x 26 (fun w' : World => w'.cell? ⟨w2.heap.size, 0, none⟩ = some (.int .i64 (least (costs z0 i)))) (by kernel_rfl) ?_
                  generalize wr.drew = wd at *
                  have hq : w2.heap.size < wd.heap.size := by omega
                  have HS := Lib.hid hS
                  have HLL := Lib.hid hL; have HMM := Lib.hid hM; clear hL hM
                  refine anyX_take (i := 1) (v := ?_) rfl (by kernel_rfl) (by kernel_rfl) (by kernel_rfl) (by kernel_rfl) (fun _ _ _ h => h) (Or.inl ⟨by rfl, ?_⟩) hS ?_
                  rotate_left
                  · intro w' hSw
                    (try dsimp only at hSw)
                    go_simp
                    try with_reducible rfl
                  try simp only [Act.put, List.getElem_toArray, List.getElem_cons_succ, List.getElem_cons_zero, List.setIfInBounds_toArray, List.set_cons_zero, List.set_cons_succ]
                  refine anyX_take (i := 3) (v := ?_) rfl (by kernel_rfl) (by kernel_rfl) (by kernel_rfl) (by kernel_rfl) (fun _ _ _ h => h) (Or.inl ⟨by rfl, ?_⟩) hS ?_
                  rotate_left
                  · intro w' hSw
                    (try dsimp only at hSw)
                    go_simp
                    try with_reducible rfl
                  try simp only [Act.put, List.getElem_toArray, List.getElem_cons_succ, List.getElem_cons_zero, List.setIfInBounds_toArray, List.set_cons_zero, List.set_cons_succ]
                  refine anyX_take (i := 6) (v := ?_) rfl (by kernel_rfl) (by kernel_rfl) (by kernel_rfl) (by kernel_rfl) (fun _ _ _ h => h) (Or.inl ⟨by rfl, ?_⟩) hS ?_
                  rotate_left
                  · intro w' hSw
                    (try dsimp only at hSw)
                    go_simp
                    try with_reducible rfl
                  try simp only [Act.put, List.getElem_toArray, List.getElem_cons_succ, List.getElem_cons_zero, List.setIfInBounds_toArray, List.set_cons_zero, List.set_cons_succ]
                  refine anyX_take (i := 8) (v := ?_) rfl (by kernel_rfl) (by kernel_rfl) (by kernel_rfl) (by kernel_rfl) (fun _ _ _ h => h) (Or.inl ⟨by rfl, ?_⟩) hS ?_
                  rotate_left
                  · intro w' hSw
                    (try dsimp only at hSw)
                    go_simp
                    try with_reducible rfl
                  try simp only [Act.put, List.getElem_toArray, List.getElem_cons_succ, List.getElem_cons_zero, List.setIfInBounds_toArray, List.set_cons_zero, List.set_cons_succ]
                  refine anyX_g (i := 0) (by kernel_rfl) (by decide) rfl (by rfl) ?_
                  intro K hK
                  try simp only [List.getElem_toArray, List.getElem_cons_succ, List.getElem_cons_zero]
                  go_simp
                  have HB0 := Lib.hid ((Below.refl wd.heap.size wd).alloc (Nat.le_refl _) (.cells #[] 3))
                  have HE := Lib.hid (Own.empty (w := wd) (Nat.le_refl _))
                  refine hK _ _ (((bcell HB0.out).1 _ _ hq).trans hS) ?_
                  clear hK
                  try simp only [Act.put, List.getElem_toArray, List.getElem_cons_succ, List.getElem_cons_zero, List.setIfInBounds_toArray, List.set_cons_zero, List.set_cons_succ]
                  refine anyX_g (i := 2) (by kernel_rfl) (by decide) rfl (by rfl) ?_
                  intro K hK
                  try simp only [List.getElem_toArray, List.getElem_cons_succ, List.getElem_cons_zero]
                  refine wp_append_row rfl (.tmp 85) (.tmp 86) rfl wd.heap.size (.slice (some ⟨wd.heap.size, 0, none⟩) 0 0) 0 [] (by rfl) HE.out (w2.heap.size + 1) u5 i (costs z0 i) (by rfl) (HLL.out.alloc _) (by omega) (HB0.out.size) ?_
                  intro v1 W1 hO1 hB1
                  have HB1 := Lib.hid (HB0.out.trans hB1); have HO1 := Lib.hid hO1; clear hB1 hO1
                  refine hK _ _ (((bcell HB1.out).1 _ _ hq).trans HS.out) ?_
                  clear hK HE
                  try simp only [Act.put, List.getElem_toArray, List.getElem_cons_succ, List.getElem_cons_zero, List.setIfInBounds_toArray, List.set_cons_zero, List.set_cons_succ]
                  refine anyX_g (i := 4) (by kernel_rfl) (by decide) rfl (by rfl) ?_
                  intro K hK
                  try simp only [List.getElem_toArray, List.getElem_cons_succ, List.getElem_cons_zero]
                  refine wp_append_row rfl (.tmp 87) (.tmp 88) rfl wd.heap.size v1 (0 + i) ([] ++ costs z0 i) (by rfl) HO1.out wk.heap.size u6 j (costs z1 j) (by rfl) (HMM.out.below_top HB1.out) (by omega) (HB1.out.size) ?_
                  intro v2 W2 hO2 hB2
                  have HBB := Lib.hid (HB1.out.trans hB2)
                  have hmin := min_own hO2 (by omega)
                  rw [List.nil_append, HA.out] at hmin
                  have HMI := Lib.hid hmin
                  have hS2 := ((bcell HBB.out).1 _ 0 hq).trans HS.out
                  refine hK _ _ hS2 ?_
                  clear hK hB2 hO2 hmin HO1 HB1 HB0
                  try simp only [Act.put, List.getElem_toArray, List.getElem_cons_succ, List.getElem_cons_zero, List.setIfInBounds_toArray, List.set_cons_zero, List.set_cons_succ]
                  refine anyX_g (i := 5) (by kernel_rfl) (by decide) rfl (by rfl) ?_
                  intro K hK
                  try simp only [List.getElem_toArray, List.getElem_cons_succ, List.getElem_cons_zero]
                  refine wp_enter #[v2] (by rfl) (by kernel_rfl) (by kernel_rfl) ?_ HMI.out ?_
                  · go_simp
                  rintro w' rfl
                  refine hK _ _ hS2 ?_
                  clear hK
                  try simp only [Act.put, List.getElem_toArray, List.getElem_cons_succ, List.getElem_cons_zero, List.setIfInBounds_toArray, List.set_cons_zero, List.set_cons_succ]
                  refine anyX_g (i := 7) (by kernel_rfl) (by decide) rfl (by rfl) ?_
                  intro K hK
                  try simp only [List.getElem_toArray, List.getElem_cons_succ, List.getElem_cons_zero]
                  refine wp_enter #[u5] (by rfl) (by kernel_rfl) (by kernel_rfl) ?_ (min_own (HLL.out.below_top HBB.out) (by omega)) ?_
                  · go_simp
                  rintro w' rfl
                  refine hK _ _ hS2 ?_
                  clear hK
                  try simp only [Act.put, List.getElem_toArray, List.getElem_cons_succ, List.getElem_cons_zero, List.setIfInBounds_toArray, List.set_cons_zero, List.set_cons_succ]
                  refine anyX_g (i := 9) (by kernel_rfl) (by decide) rfl (by rfl) ?_
                  intro K hK
                  try simp only [List.getElem_toArray, List.getElem_cons_succ, List.getElem_cons_zero]
                  refine wp_enter #[u6] (by rfl) (by kernel_rfl) (by kernel_rfl) ?_ (min_own (HMM.out.below_top HBB.out) (by omega)) ?_
                  · go_simp
                  rintro w' rfl
                  refine hK _ _ hS2 ?_
                  clear hK
                  try simp only [Act.put, List.getElem_toArray, List.getElem_cons_succ, List.getElem_cons_zero, List.setIfInBounds_toArray, List.set_cons_zero, List.set_cons_succ]
                  refine anyX_g (i := 10) (by kernel_rfl) (by decide) rfl (by rfl) ?_
                  intro K hK
                  try simp only [List.getElem_toArray, List.getElem_cons_succ, List.getElem_cons_zero]
                  go_simp
                  have HB3 := Lib.hid (HBB.out.alloc HBB.out.size (.cells #[.int .i64 (least (costs z0 i)), .int .i64 (least (costs z1 j))] 3))
                  have hS3 := ((bcell HB3.out).1 _ 0 hq).trans HS.out
                  refine hK _ _ hS3 ?_
                  clear hK
                  try simp only [Act.put, List.getElem_toArray, List.getElem_cons_succ, List.getElem_cons_zero, List.setIfInBounds_toArray, List.set_cons_zero, List.set_cons_succ]
                  refine anyX_g (i := 11) (by kernel_rfl) (by decide) rfl (by rfl) ?_
                  intro K hK
                  try simp only [List.getElem_toArray, List.getElem_cons_succ, List.getElem_cons_zero]
                  refine wp_enter #[.slice (some ⟨W2.heap.size, 0, none⟩) 2 2] (by rfl) (by kernel_rfl) (by kernel_rfl) ?_ (min2_any (least (costs z0 i)) (least (costs z1 j)) W2.heap.size _ (by simp [go_sem]) (by simp [go_sem])) ?_
                  · go_simp
                  rintro w' rfl
                  refine hK _ _ hS3 ?_
                  clear hK
                  try simp only [Act.put, List.getElem_toArray, List.getElem_cons_succ, List.getElem_cons_zero, List.setIfInBounds_toArray, List.set_cons_zero, List.set_cons_succ]
                  refine anyX_take (i := 12) (v := ?_) rfl (by kernel_rfl) (by kernel_rfl) (by kernel_rfl) (by kernel_rfl) (fun _ _ _ h => h) (Or.inl ⟨by rfl, ?_⟩) hS3 ?_
                  rotate_left
                  · intro w' hSw
                    (try dsimp only at hSw)
                    go_simp
                    try with_reducible rfl
                  try simp only [Act.put, List.getElem_toArray, List.getElem_cons_succ, List.getElem_cons_zero, List.setIfInBounds_toArray, List.set_cons_zero, List.set_cons_succ]
                  refine anyX_take (i := 13) (v := ?_) rfl (by kernel_rfl) (by kernel_rfl) (by kernel_rfl) (by kernel_rfl) (fun _ _ _ h => h) (Or.inl ⟨by rfl, ?_⟩) hS3 ?_
                  rotate_left
                  · intro w' hSw
                    (try dsimp only at hSw)
                    go_simp
                    try with_reducible rfl
                  try simp only [Act.put, List.getElem_toArray, List.getElem_cons_succ, List.getElem_cons_zero, List.setIfInBounds_toArray, List.set_cons_zero, List.set_cons_succ]
                  refine anyX_take (i := 14) (v := ?_) rfl (by kernel_rfl) (by kernel_rfl) (by kernel_rfl) (by kernel_rfl) (fun _ _ _ h => h) (Or.inl ⟨by rfl, ?_⟩) hS3 ?_
                  rotate_left
                  · intro w' hSw
                    (try dsimp only at hSw)
                    go_simp
                    try with_reducible rfl
                  try simp only [Act.put, List.getElem_toArray, List.getElem_cons_succ, List.getElem_cons_zero, List.setIfInBounds_toArray, List.set_cons_zero, List.set_cons_succ]
                  refine anyX_take (i := 15) (v := ?_) rfl (by kernel_rfl) (by kernel_rfl) (by kernel_rfl) (by kernel_rfl) (fun _ _ _ h => h) (Or.inl ⟨by rfl, ?_⟩) hS3 ?_
                  rotate_left
                  · intro w' hSw
                    (try dsimp only at hSw)
                    go_simp
                    try with_reducible rfl
                  try simp only [Act.put, List.getElem_toArray, List.getElem_cons_succ, List.getElem_cons_zero, List.setIfInBounds_toArray, List.set_cons_zero, List.set_cons_succ]
                  refine anyX_take (i := 16) (v := ?_) rfl (by kernel_rfl) (by kernel_rfl) (by kernel_rfl) (by kernel_rfl) (fun _ _ _ h => h) (Or.inl ⟨by rfl, ?_⟩) hS3 ?_
                  rotate_left
                  · intro w' hSw
                    (try dsimp only at hSw)
                    go_simp
                    try with_reducible rfl
                  try simp only [Act.put, List.getElem_toArray, List.getElem_cons_succ, List.getElem_cons_zero, List.setIfInBounds_toArray, List.set_cons_zero, List.set_cons_succ]
                  refine anyX_take (i := 17) (v := ?_) rfl (by kernel_rfl) (by kernel_rfl) (by kernel_rfl) (by kernel_rfl) (fun _ _ _ h => h) (Or.inl ⟨by rfl, ?_⟩) hS3 ?_
                  rotate_left
                  · intro w' hSw
                    (try dsimp only at hSw)
                    go_simp
                    try with_reducible rfl
                  try simp only [Act.put, List.getElem_toArray, List.getElem_cons_succ, List.getElem_cons_zero, List.setIfInBounds_toArray, List.set_cons_zero, List.set_cons_succ]
                  refine anyX_take (i := 18) (v := ?_) rfl (by kernel_rfl) (by kernel_rfl) (by kernel_rfl) (by kernel_rfl) (fun _ _ _ h => h) (Or.inl ⟨by rfl, ?_⟩) hS3 ?_
                  rotate_left
                  · intro w' hSw
                    (try dsimp only at hSw)
                    go_simp
                    try with_reducible rfl
                  try simp only [Act.put, List.getElem_toArray, List.getElem_cons_succ, List.getElem_cons_zero, List.setIfInBounds_toArray, List.set_cons_zero, List.set_cons_succ]
                  refine anyX_take (i := 19) (v := ?_) rfl (by kernel_rfl) (by kernel_rfl) (by kernel_rfl) (by kernel_rfl) (fun _ _ _ h => h) (Or.inl ⟨by rfl, ?_⟩) hS3 ?_
                  rotate_left
                  · intro w' hSw
                    (try dsimp only at hSw)
                    go_simp
                    try with_reducible rfl
                  try simp only [Act.put, List.getElem_toArray, List.getElem_cons_succ, List.getElem_cons_zero, List.setIfInBounds_toArray, List.set_cons_zero, List.set_cons_succ]
                  refine anyX_take (i := 20) (v := ?_) rfl (by kernel_rfl) (by kernel_rfl) (by kernel_rfl) (by kernel_rfl) (fun _ _ _ h => h) (Or.inl ⟨by rfl, ?_⟩) hS3 ?_
                  rotate_left
                  · intro w' hSw
                    (try dsimp only at hSw)
                    go_simp
                    try with_reducible rfl
                  try simp only [Act.put, List.getElem_toArray, List.getElem_cons_succ, List.getElem_cons_zero, List.setIfInBounds_toArray, List.set_cons_zero, List.set_cons_succ]
                  refine anyX_take (i := 21) (v := ?_) rfl (by kernel_rfl) (by kernel_rfl) (by kernel_rfl) (by kernel_rfl) (fun _ _ _ h => h) (Or.inl ⟨by rfl, ?_⟩) hS3 ?_
                  rotate_left
                  · intro w' hSw
                    (try dsimp only at hSw)
                    go_simp
                    try with_reducible rfl
                  try simp only [Act.put, List.getElem_toArray, List.getElem_cons_succ, List.getElem_cons_zero, List.setIfInBounds_toArray, List.set_cons_zero, List.set_cons_succ]
                  refine anyX_take (i := 22) (v := ?_) rfl (by kernel_rfl) (by kernel_rfl) (by kernel_rfl) (by kernel_rfl) (fun _ _ _ h => h) (Or.inl ⟨by rfl, ?_⟩) hS3 ?_
                  rotate_left
                  · intro w' hSw
                    (try dsimp only at hSw)
                    go_simp
                    try with_reducible rfl
                  try simp only [Act.put, List.getElem_toArray, List.getElem_cons_succ, List.getElem_cons_zero, List.setIfInBounds_toArray, List.set_cons_zero, List.set_cons_succ]
                  refine anyX_g (i := 23) (by kernel_rfl) (by decide) rfl (by rfl) ?_
                  intro K hK
                  try simp only [List.getElem_toArray, List.getElem_cons_succ, List.getElem_cons_zero]
                  refine wp_enter #[u5] (by rfl) (by kernel_rfl) (by kernel_rfl) ?_ (min_own (HLL.out.below_top HB3.out) (by omega)) ?_
                  · go_simp
                  rintro w' rfl
                  refine hK _ _ hS3 ?_
                  clear hK
                  try simp only [Act.put, List.getElem_toArray, List.getElem_cons_succ, List.getElem_cons_zero, List.setIfInBounds_toArray, List.set_cons_zero, List.set_cons_succ]
                  refine anyX_take (i := 24) (v := ?_) rfl (by kernel_rfl) (by kernel_rfl) (by kernel_rfl) (by kernel_rfl) (fun _ _ _ h => h) (Or.inl ⟨by rfl, ?_⟩) hS3 ?_
                  rotate_left
                  · intro w' hSw
                    (try dsimp only at hSw)
                    go_simp
                    try with_reducible rfl
                  try simp only [Act.put, List.getElem_toArray, List.getElem_cons_succ, List.getElem_cons_zero, List.setIfInBounds_toArray, List.set_cons_zero, List.set_cons_succ]
                  refine anyX_take (i := 25) (v := ?_) rfl (by kernel_rfl) (by kernel_rfl) (by kernel_rfl) (by kernel_rfl) (fun _ _ _ h => h) (Or.inl ⟨by rfl, ?_⟩) hS3 ?_
                  rotate_left
                  · intro w' hSw
                    (try dsimp only at hSw)
                    go_simp
                    try with_reducible rfl
                  try simp only [Act.put, List.getElem_toArray, List.getElem_cons_succ, List.getElem_cons_zero, List.setIfInBounds_toArray, List.set_cons_zero, List.set_cons_succ]
                  refine anyX_last (by kernel_rfl) (by kernel_rfl) rfl rfl ?_
                  try simp only [List.getElem_toArray, List.getElem_cons_succ, List.getElem_cons_zero]
                  go_simp
                  apply_assumption
                  go_wp2_with fail
                  refine bodyPost_ret (v := .bool true) (by simp [results, Tryd.results3, go_sem]) rfl ⟨rfl, ?_⟩
                  exact HBF.out.trans (HB3.out.mono (by have := HBF.out.size; omega))

end Go.Proofs.YtcdenblejfmkaaaDoor
