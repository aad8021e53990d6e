/- Contracts of back and det: a machine goes over a letter, what it tells. Contract of det: what a state tells, of a label. -/
import Derived.Test.YtacgakkcpmhgmaaVSegC
import Derived.Test.YtacgakkcpmhgmaaVTableB
set_option linter.unusedVariables false
set_option linter.unusedSimpArgs false
set_option maxRecDepth 100000
set_option maxHeartbeats 4000000
namespace Go.Proofs.Ytacgakkcpmhgmaa
open Go Go.RowKit Go.Proofs
theorem sdrew2 (w : World) (a b : Nat) : (w.drewN a).drewN b = w.drewN (a + b) := by simp [World.drewN, Nat.add_assoc]
theorem bnext_any {w0 w : World} {b n nc k i c : Nat} {NA : Option Addr} {vo : Value} {T : List (List Int)} (hx : Blk w b 112 #[.slice NA n nc, vo, .int .i64 (i : Int)]) (hr : RowsI w0 (.slice NA n nc) T) (hb : Below w0.heap.size w0 w) (hbb : w0.heap.size <= b) (hT : LeadI T k) (hn : T.length = n) (hi : i < n) (hc : c < k) (hk : k <= 1000000) :
  Calls Try.prog 84 #[.pointer (some ⟨b, 0, none⟩), .int .i64 (c : Int)] w fun e w' => (∃ v, e = .returned v) /\ Blk w' b 112 #[.slice NA n nc, vo, .int .i64 (nxI T i c)] /\ Fr (fun q => q = b) w w' := by
  obtain ⟨NA', c', e, l1, l2⟩ := hr.form
  rw [hn] at e l1
  simp only [Value.slice.injEq, true_and] at e
  obtain ⟨rfl, rfl⟩ := e
  obtain ⟨W1, hW1⟩ : ∃ W, w.setCell ⟨b, 2, none⟩ (.int .i64 0) = W := ⟨_, rfl⟩
  have hx1 : Blk W1 b 112 #[.slice NA n nc, vo, .int .i64 0] := by rw [<- hW1]; simpa using hx.set_ 2 (.int .i64 0)
  have hf1 : Fr (fun q => q = b) w W1 := by rw [<- hW1]; exact (Fr.refl (fun q => q = b) w).set_ (p := ⟨b, 2, none⟩) (.inl rfl) _
  have hb1 : Below w0.heap.size w0 W1 := hb.trans (hf1.below hb.size (fun q hq e => by have e' : q = b := e; omega))
  obtain ⟨g, o, A, m, cr, ea, hm, hcx, hrr, hmc, hc9⟩ := (hr.below hb1).at_ (i := i) (by rw [hn]; exact hi)
  subst ea
  have hml : m = k := by rw [hm]; exact (hT.2.2 _ (getD_memL (by rw [hn]; exact hi))).1
  subst hml
  obtain ⟨g2, o2, e2, -, hcy⟩ := hrr.at c hc
  subst e2
  obtain ⟨y, hy⟩ : ∃ y, (T.getD i []).getD c 0 = y := ⟨_, rfl⟩
  rw [hy] at hcy
  have HNX : Hid (nxI T i c = y) := Lib.hid (by unfold nxI; rw [Int.toNat_natCast, Int.toNat_natCast]; exact hy)
  have c2 := hx.cell 2; have f2 := hx.frozen 2
  have d0 := hx1.cell 0; have d2 := hx1.cell 2; have g2' := hx1.frozen 2
  simp only [List.getElem?_toArray, List.getElem?_cons_zero, List.getElem?_cons_succ] at c2 d0 d2
  have HX1 := Lib.hid hx1; have HF1 := Lib.hid hf1; have HW1 := Lib.hid hW1
  have i0 : (0 : Int) <= (i : Int) := Int.natCast_nonneg _
  have i1 : (i : Int) < (n : Int) := by omega
  have a0 : (0 : Int) <= (c : Int) := Int.natCast_nonneg _
  have a1 : (c : Int) < (m : Int) := by omega
  rw [<- hW1] at hcx hcy d0 d2 g2'
  clear hr hb hT hm hx hx1 hf1 hb1 hW1 hrr hy
  go_enter Try.func84, Try.ntmps84
  go_wp2_with fail
  refine bodyPost_end (results_none rfl _ _ _) rfl ?_
  rw [HW1.out, HNX.out]
  exact ⟨⟨_, rfl⟩, by simpa using HX1.out.set_ 2 (.int .i64 y), HF1.out.set_ (p := ⟨b, 2, none⟩) (.inl rfl) _⟩
theorem fnext_any {w0 w : World} {b n nc k i c : Nat} {NA : Option Addr} {vo : Value} {T : List (List Int)} (hx : Blk w b 108 #[.slice NA n nc, vo, .int .i64 (i : Int)]) (hr : RowsI w0 (.slice NA n nc) T) (hb : Below w0.heap.size w0 w) (hbb : w0.heap.size <= b) (hT : LeadI T k) (hn : T.length = n) (hi : i < n) (hc : c < k) (hk : k <= 1000000) :
  Calls Try.prog 81 #[.pointer (some ⟨b, 0, none⟩), .int .i64 (c : Int)] w fun e w' => (∃ v, e = .returned v) /\ Blk w' b 108 #[.slice NA n nc, vo, .int .i64 (nxI T i c)] /\ Fr (fun q => q = b) w w' := by
  obtain ⟨NA', c', e, l1, l2⟩ := hr.form
  rw [hn] at e l1
  simp only [Value.slice.injEq, true_and] at e
  obtain ⟨rfl, rfl⟩ := e
  obtain ⟨W1, hW1⟩ : ∃ W, w.setCell ⟨b, 2, none⟩ (.int .i64 0) = W := ⟨_, rfl⟩
  have hx1 : Blk W1 b 108 #[.slice NA n nc, vo, .int .i64 0] := by rw [<- hW1]; simpa using hx.set_ 2 (.int .i64 0)
  have hf1 : Fr (fun q => q = b) w W1 := by rw [<- hW1]; exact (Fr.refl (fun q => q = b) w).set_ (p := ⟨b, 2, none⟩) (.inl rfl) _
  have hb1 : Below w0.heap.size w0 W1 := hb.trans (hf1.below hb.size (fun q hq e => by have e' : q = b := e; omega))
  obtain ⟨g, o, A, m, cr, ea, hm, hcx, hrr, hmc, hc9⟩ := (hr.below hb1).at_ (i := i) (by rw [hn]; exact hi)
  subst ea
  have hml : m = k := by rw [hm]; exact (hT.2.2 _ (getD_memL (by rw [hn]; exact hi))).1
  subst hml
  obtain ⟨g2, o2, e2, -, hcy⟩ := hrr.at c hc
  subst e2
  obtain ⟨y, hy⟩ : ∃ y, (T.getD i []).getD c 0 = y := ⟨_, rfl⟩
  rw [hy] at hcy
  have HNX : Hid (nxI T i c = y) := Lib.hid (by unfold nxI; rw [Int.toNat_natCast, Int.toNat_natCast]; exact hy)
  have c2 := hx.cell 2; have f2 := hx.frozen 2
  have d0 := hx1.cell 0; have d2 := hx1.cell 2; have g2' := hx1.frozen 2
  simp only [List.getElem?_toArray, List.getElem?_cons_zero, List.getElem?_cons_succ] at c2 d0 d2
  have HX1 := Lib.hid hx1; have HF1 := Lib.hid hf1; have HW1 := Lib.hid hW1
  have i0 : (0 : Int) <= (i : Int) := Int.natCast_nonneg _
  have i1 : (i : Int) < (n : Int) := by omega
  have a0 : (0 : Int) <= (c : Int) := Int.natCast_nonneg _
  have a1 : (c : Int) < (m : Int) := by omega
  rw [<- hW1] at hcx hcy d0 d2 g2'
  clear hr hb hT hm hx hx1 hf1 hb1 hW1 hrr hy
  go_enter Try.func81, Try.ntmps81
  go_wp2_with fail
  refine bodyPost_end (results_none rfl _ _ _) rfl ?_
  rw [HW1.out, HNX.out]
  exact ⟨⟨_, rfl⟩, by simpa using HX1.out.set_ 2 (.int .i64 y), HF1.out.set_ (p := ⟨b, 2, none⟩) (.inl rfl) _⟩
theorem bout_any {w0 w : World} {b n oc i : Nat} {OA : Option Addr} {vn : Value} {O : List Int} (hx : Blk w b 112 #[vn, .slice OA n oc, .int .i64 (i : Int)]) (ho : ReadsI w0 (.slice OA n oc) n O) (hb : Below w0.heap.size w0 w) (hi : i < n) :
  Calls Try.prog 82 #[.pointer (some ⟨b, 0, none⟩)] w fun e w' => e = .returned (.int .i64 (O.getD i 0)) /\ ∃ q, w' = w.drewN q := by
  obtain ⟨g, o, e, -, hcy⟩ := (ho.below hb).at i hi
  obtain ⟨OA', c', e2, l1, l2, -⟩ := ho.form
  simp only [Value.slice.injEq, true_and] at e2
  obtain ⟨rfl, rfl⟩ := e2
  subst e
  obtain ⟨y, hy⟩ : ∃ y, O.getD i 0 = y := ⟨_, rfl⟩
  rw [hy] at hcy ⊢
  have c1 := hx.cell 1; have c2 := hx.cell 2
  simp only [List.getElem?_toArray, List.getElem?_cons_zero, List.getElem?_cons_succ] at c1 c2
  have i0 : (0 : Int) <= (i : Int) := Int.natCast_nonneg _
  have i1 : (i : Int) < (n : Int) := by omega
  have t1 : decide ((i : Int) < 0) = false := by simp
  have t2 : decide ((n : Int) <= (i : Int)) = false := by simpa using hi
  have t3 : ¬ (n : Int) <= (i : Int) := by omega
  have t4 : ¬ (i : Int) < 0 := by omega
  have t5 : decide (n <= i) = false := by simpa using hi
  clear hx ho hb hy
  go_enter Try.func82, Try.ntmps82
  go_wp2_with fail
  go_big_quiet (fail)
  go_wp2_with fail
  go_big_quiet (fail)
  go_wp2_with fail
  go_ret
  exact ⟨rfl, _, sdrew2 _ _ _⟩
end Go.Proofs.Ytacgakkcpmhgmaa
namespace Go.Proofs.Ytacgakkcpmhgmaa
open Go Go.RowKit Go.Proofs
theorem sbel_drewN {B : Nat} {w w' : World} (h : Below B w w') (d : Nat) : Below B w (w'.drewN d) := ⟨h.os, h.tape, h.output, h.size, h.block⟩
theorem fvec_any {w0 w : World} {b n ec i j m lc : Nat} {EA LA : Option Addr} {vn : Value} {E : List (List V3)} {O : List Int} (hx : Blk w b 108 #[vn, .slice EA n ec, .int .i64 (i : Int)]) (he : EmitR w0 (.slice EA n ec) E) (hen : E.length = n) (hl : ReadsI w0 (.slice LA m lc) m O) (hb : Below w0.heap.size w0 w) (hi : i < n) (hj : j < m) (ho : 0 <= O.getD j 0) (ho1 : O.getD j 0 < ((E.getD i []).length : Int)) :
  Calls Try.prog 80 #[.pointer (some ⟨b, 0, none⟩), .int .i64 (j : Int), .slice LA m lc] w fun e w' => e = .returned (vcV ((E.getD i []).getD (O.getD j 0).toNat (0, 0, 0))) /\ Below w.heap.size w w' := by
  obtain ⟨EA', c', e, l1, l2⟩ := he.form
  rw [hen] at e l1
  simp only [Value.slice.injEq, true_and] at e
  obtain ⟨rfl, rfl⟩ := e
  obtain ⟨B, hB⟩ : ∃ B, w.heap.size = B := ⟨_, rfl⟩
  obtain ⟨W0, hW0⟩ : ∃ W, w.alloc (.cells #[.int .i64 0, .int .i64 0, .int .i64 0] 51) = W := ⟨_, rfl⟩
  have hb0 : Below w.heap.size w W0 := by rw [<- hW0]; exact (Below.refl _ _).alloc (Nat.le_refl _) _
  have hbz : Below w0.heap.size w0 W0 := hb.trans (hb0.mono hb.size)
  have hy : Blk W0 B 51 #[.int .i64 0, .int .i64 0, .int .i64 0] := by rw [<- hW0]; exact sblk_new _ hB _ _
  have hx0 : Blk W0 b 108 #[vn, .slice EA n ec, .int .i64 (i : Int)] := hx.below hb0 hx.lt
  obtain ⟨g, o, A, q, cr, ea, hq, hcx, hrr, hmc, hc9⟩ := (he.below hbz).at_ (i := i) (by rw [hen]; exact hi)
  subst ea
  obtain ⟨g3, o3, e3, -, hcl⟩ := (hl.below hbz).at j hj
  subst e3
  rw [<- hq] at ho1
  obtain ⟨R, hR⟩ : ∃ R, E.getD i [] = R := ⟨_, rfl⟩
  rw [hR] at hq hrr ⊢
  obtain ⟨y, hy0⟩ : ∃ y, O.getD j 0 = y := ⟨_, rfl⟩
  rw [hy0] at ho ho1 hcl
  obtain ⟨x, hx1⟩ : ∃ x : Nat, y = (x : Int) := ⟨y.toNat, by omega⟩
  subst hx1
  have hxq : x < q := by omega
  obtain ⟨⟨p1, p2, p3⟩, hu⟩ : ∃ u, R.getD x (0, 0, 0) = u := ⟨_, rfl⟩
  have hxu : R[x]? = some (p1, p2, p3) := by rw [<- hu, List.getD_eq_getElem?_getD, List.getElem?_eq_getElem (by omega)]; rfl
  obtain ⟨g4, o4, e4, -, hcv⟩ := hrr.at encV_len (by decide) x _ hxu
  subst e4
  have d0 := hcv 0 (.int .i64 p1) rfl; have d1 := hcv 1 (.int .i64 p2) rfl; have d2 := hcv 2 (.int .i64 p3) rfl
  rw [Nat.add_zero] at d0
  have HRA : Hid (R.getD (O.getD j 0).toNat (0, 0, 0) = (p1, p2, p3)) := Lib.hid (by rw [hy0, Int.toNat_natCast, hu])
  have c1 := hx0.cell 1; have c2 := hx0.cell 2
  have y0 := hy.cell 0; have y1 := hy.cell 1; have y2 := hy.cell 2; have f0 := hy.frozen 0; have f1 := hy.frozen 1; have f2 := hy.frozen 2
  simp only [List.getElem?_toArray, List.getElem?_cons_zero, List.getElem?_cons_succ] at c1 c2 y0 y1 y2
  have i0 : (0 : Int) <= (i : Int) := Int.natCast_nonneg _
  have i1 : (i : Int) < (n : Int) := by omega
  have t1 : decide ((i : Int) < 0) = false := by simp
  have t2 : decide ((n : Int) <= (i : Int)) = false := by simpa using hi
  have t3 : ¬ (n : Int) <= (i : Int) := by omega
  have t4 : ¬ (i : Int) < 0 := by omega
  have t5 : decide (n <= i) = false := by simpa using hi
  have j0 : (0 : Int) <= (j : Int) := Int.natCast_nonneg _
  have j1 : (j : Int) < (m : Int) := by omega
  have j3 : ¬ (m : Int) <= (j : Int) := by omega
  have j2 : decide ((m : Int) <= (j : Int)) = false := by simpa using hj
  have j5 : decide (m <= j) = false := by simpa using hj
  have x0 : (0 : Int) <= (x : Int) := Int.natCast_nonneg _
  have x1 : (x : Int) < (q : Int) := by omega
  have x3 : ¬ (q : Int) <= (x : Int) := by omega
  have x4 : ¬ (x : Int) < 0 := by omega
  have HB := Lib.hid hb0; have HW0 := Lib.hid hW0; have HBE := Lib.hid hB
  clear hx he hl hb hb0 hbz hW0 hB hx0 hy hrr hcv hxu hy0 hu hq hen ho ho1
  go_enter Try.func80, Try.ntmps80
  go_wp2_with fail
  rw [HW0.out]
  try simp only [HBE.out]
  go_big_quiet (fail)
  go_wp2_with fail
  go_big_quiet (fail)
  go_wp2_with fail
  refine bodyPost_ret (v := vcV (p1, p2, p3)) (by simp [results, Try.results80, go_sem, vcV, y0, y1, y2]) rfl ?_
  rw [HRA.out]
  exact ⟨rfl, (((sbel_drewN HB.out _).setCell (p := ⟨B, 0, none⟩) (by rw [HBE.out]; exact Nat.le_refl _) _).setCell (p := ⟨B, 1, none⟩) (by rw [HBE.out]; exact Nat.le_refl _) _).setCell (p := ⟨B, 2, none⟩) (by rw [HBE.out]; exact Nat.le_refl _) _⟩
end Go.Proofs.Ytacgakkcpmhgmaa
