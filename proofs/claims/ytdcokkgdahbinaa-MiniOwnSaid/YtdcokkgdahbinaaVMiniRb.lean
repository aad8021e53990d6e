/- The chapter's own agree, name, only. The chapter's own only, met. -/
import Derived.Test.YtdcokkgdahbinaaVMiniMg
import Derived.Test.YtdcokkgdahbinaaVMiniQf
set_option linter.unusedVariables false
set_option linter.unusedSimpArgs false
set_option maxRecDepth 100000
set_option maxHeartbeats 8000000
namespace Go.Proofs.Ytdcokkgdahbinaa
open Go Go.RowKit Go.Proofs
def agrB (T : List (List Nat)) (k : Nat) (p : Nat -> Nat) (a b j : Nat) : Bool := (List.range j).all fun i => p (trN T a i) == p (trN T b i)
theorem agrB_succ (T : List (List Nat)) (k : Nat) (p : Nat -> Nat) (a b j : Nat) : agrB T k p a b (j + 1) = (agrB T k p a b j && (p (trN T a j) == p (trN T b j))) := by
 unfold agrB
 rw [List.range_succ, List.all_append]
 simp
theorem agrB_no {T : List (List Nat)} {k : Nat} {p : Nat -> Nat} {a b j : Nat} (hj : j < k) (h : ¬ p (trN T a j) = p (trN T b j)) : agrB T k p a b k = false := by
 unfold agrB
 rw [List.all_eq_false]
 exact ⟨j, List.mem_range.2 hj, by simpa using h⟩
theorem agree_any {w : World} {NA PA : Option Addr} {nc pc n k a b : Nat} {T : List (List Nat)} {p : Nat -> Nat} (h : NextR w (.slice NA n nc) T) (hl : T.length = n) (hT : RectN T k) (hp : ReadsI w (.slice PA n pc) n (rowN n p)) (ha : a < n) (hb : b < n) :
  Calls Try.prog 58 #[.slice NA n nc, .slice PA n pc, .int .i64 (a : Int), .int .i64 (b : Int)] w fun e w' => e = .returned (.bool (agrB T k p a b k)) /\ ∃ d, w' = w.drewN d := by
  obtain ⟨a1, c1', e1, q1, q2⟩ := h.form
  rw [hl] at q1
  simp only [Value.slice.injEq] at e1
  obtain ⟨rfl, -, rfl⟩ := e1
  obtain ⟨a1, c1', e1, q3, q4, -⟩ := hp.form
  simp only [Value.slice.injEq, true_and] at e1
  obtain ⟨rfl, rfl⟩ := e1
  obtain ⟨g1, o1, A1, m1, c1, e1, hm1, d1, r1, l1, l2⟩ := h.at_ (i := a) (by rw [hl]; exact ha)
  obtain ⟨g2, o2, A2, m2, c2, e2, hm2, d2, r2, l3, l4⟩ := h.at_ (i := b) (by rw [hl]; exact hb)
  subst e1
  simp only [Option.some.injEq, Addr.mk.injEq, and_true] at e2
  obtain ⟨rfl, rfl⟩ := e2
  obtain rfl : k = m1 := by rw [hm1]; exact (hT.len a (by rw [hl]; exact ha)).symm
  obtain rfl : k = m2 := by rw [hm2]; exact (hT.len b (by rw [hl]; exact hb)).symm
  have a0 : (0 : Int) <= (a : Int) := Int.natCast_nonneg _
  have a1 : (a : Int) < (n : Int) := by omega
  have b0 : (0 : Int) <= (b : Int) := Int.natCast_nonneg _
  have b1 : (b : Int) < (n : Int) := by omega
  have HP := Lib.hid hp; have HT := Lib.hid hT; have HL := Lib.hid hl; have R1 := Lib.hid r1; have R2 := Lib.hid r2
  clear h hp hT hl r1 r2 hm1 hm2
  go_enter Try.func58, Try.ntmps58
  go_wp2_with fail
  go_loopw [9] (fun vi wr => ∃ i d : Nat, vi = .int .i64 (i : Int) /\ i <= k /\ Hid (agrB T k p a b i = true) /\ wr = w.drewN d) (fun vi _ => k - (intOf vi).toNat)
  case atStart => exact ⟨0, 0, rfl, Nat.zero_le _, Lib.hid rfl, rfl⟩
  case round =>
   obtain ⟨i, d, rfl, hi, HG, rfl⟩ := hrel
   have i0 : (0 : Int) <= (i : Int) := Int.natCast_nonneg _
   by_cases hlt : i < k
   ·have i1 : (i : Int) < (k : Int) := by omega
    have t1 : decide (i < k) = true := by simpa using hlt
    obtain ⟨g3, o3, rfl, -, d3⟩ := R1.out.at i hlt
    obtain ⟨g4, o4, rfl, -, d4⟩ := R2.out.at i hlt
    have e3 : (intsN (T.getD a [])).getD i 0 = ((trN T a i : Nat) : Int) := by rw [intsN_at]; rfl
    have e4 : (intsN (T.getD b [])).getD i 0 = ((trN T b i : Nat) : Int) := by rw [intsN_at]; rfl
    rw [e3] at d3
    rw [e4] at d4
    have hz1 := HT.out.lt a i (by rw [HL.out]; exact ha) hlt
    have hz2 := HT.out.lt b i (by rw [HL.out]; exact hb) hlt
    rw [HL.out] at hz1 hz2
    obtain ⟨g5, o5, e5, -, d5⟩ := HP.out.at (trN T a i) hz1
    obtain ⟨g6, o6, e6, -, d6⟩ := HP.out.at (trN T b i) hz2
    subst e5
    simp only [Option.some.injEq, Addr.mk.injEq, and_true] at e6
    obtain ⟨rfl, rfl⟩ := e6
    have f5 : (rowN n p).getD (trN T a i) 0 = ((p (trN T a i) : Nat) : Int) := by simp [rowN, hz1]
    have f6 : (rowN n p).getD (trN T b i) 0 = ((p (trN T b i) : Nat) : Int) := by simp [rowN, hz2]
    rw [f5] at d5
    rw [f6] at d6
    have hgs := agrB_succ T k p a b i
    have hgn : ¬ p (trN T a i) = p (trN T b i) -> agrB T k p a b k = false := fun q => agrB_no hlt q
    have HGS := Lib.hid hgs; have HGN := Lib.hid hgn
    clear e3 e4 f5 f6 hgs hgn
    generalize p (trN T a i) = y1 at *
    generalize p (trN T b i) = y2 at *
    generalize trN T a i = z1 at *
    generalize trN T b i = z2 at *
    have u0 : (0 : Int) <= (z1 : Int) := Int.natCast_nonneg _
    have u1 : (z1 : Int) < (n : Int) := by omega
    have v0 : (0 : Int) <= (z2 : Int) := Int.natCast_nonneg _
    have v1 : (z2 : Int) < (n : Int) := by omega
    by_cases hy : y1 = y2
    ·subst hy
     go_wp2_with fail
     go_big_quiet (fail)
     go_wp2_with fail
     exact ⟨⟨i + 1, _, by go_num, by omega, Lib.hid (by rw [HGS.out, HG.out]; simp), rfl⟩, by simp [intOf]; omega⟩
    ·have t2 : ((y1 : Int) == (y2 : Int)) = false := by simp; omega
     have t3 : (y1 == y2) = false := by simpa using hy
     have t4 : ((y1 : Int) != (y2 : Int)) = true := by simp; omega
     have t5 : (y1 != y2) = true := by simpa using hy
     have t6 : ¬ (y1 : Int) = (y2 : Int) := by omega
     have HF := Lib.hid (HGN.out hy)
     go_wp2_with fail
     go_big_quiet (fail)
     go_wp2_with fail
     go_ret
     exact ⟨by rw [HF.out]; rfl, _, World.drewN_drewN _ _ _⟩
   ·obtain rfl : k = i := by omega
    go_wp2_with fail
    go_ret
    exact ⟨by rw [HG.out]; rfl, d, rfl⟩
theorem name_any {w : World} {B g c n z m : Nat} {PA : Option Addr} {pc : Nat} {p : Nat -> Nat} {f : Nat -> Int} (hp : ReadsI w (.slice PA n pc) n (rowN n p)) (ho : Own w B (sl g n c) n (rowZ n f)) (hne : ∀ b o, PA = some ⟨b, o, none⟩ -> b ≠ g) (hz : z < n) (hc : n <= c) (hc2 : c <= 9223372036854775807) :
  Calls Try.prog 57 #[.slice PA n pc, sl g n c, .int .i64 (z : Int), .int .i64 (m : Int)] w fun e w' => e = .returned (.tuple #[]) /\ Own w' B (sl g n c) n (rowZ n fun i => if p i = p z then (m : Int) else f i) /\ Fr (fun q => q = g) w w' := by
  obtain ⟨a1, c1', e1, q3, q4, -⟩ := hp.form
  simp only [Value.slice.injEq, true_and] at e1
  obtain ⟨rfl, rfl⟩ := e1
  obtain ⟨gp, op, ep, -, dz⟩ := hp.at z hz
  subst ep
  have hng := hne gp op rfl
  have f0 : ∀ i, i < n -> (rowN n p).getD i 0 = ((p i : Nat) : Int) := fun i hi => by simp [rowN, hi]
  rw [f0 z hz] at dz
  have z0 : (0 : Int) <= (z : Int) := Int.natCast_nonneg _
  have z1 : (z : Int) < (n : Int) := by omega
  have HP := Lib.hid hp; have HO := Lib.hid ho; have F0 := Lib.hid f0
  have H0 : Hid (Own w B (sl g n c) n (rowZ n fun i => if i < 0 /\ p i = p z then (m : Int) else f i)) := Lib.hid (by
   have e : (rowZ n fun i => if i < 0 /\ p i = p z then (m : Int) else f i) = rowZ n f := rowZ_eq fun i hi => if_neg (by omega)
   rw [e]; exact ho)
  clear hp ho hne f0
  have DZ := Lib.hid dz
  clear dz
  go_enter Try.func57, Try.ntmps57
  go_wp2_with fail
  go_loopw [8] (fun vi wr => ∃ i : Nat, vi = .int .i64 (i : Int) /\ i <= n /\ Hid (Own wr B (sl g n c) n (rowZ n fun j => if j < i /\ p j = p z then (m : Int) else f j)) /\ Hid (Fr (fun q => q = g) w wr)) (fun vi _ => n - (intOf vi).toNat)
  case atStart => exact ⟨0, rfl, Nat.zero_le _, H0, Lib.hid (Fr.refl _ _)⟩
  case round =>
   clear H0
   obtain ⟨i, rfl, hi, HOW, HFR⟩ := hrel
   have i0 : (0 : Int) <= (i : Int) := Int.natCast_nonneg _
   by_cases hlt : i < n
   ·have i1 : (i : Int) < (n : Int) := by omega
    have t1 : decide (i < n) = true := by simpa using hlt
    obtain ⟨g3, o3, e3, -, d3⟩ := HP.out.at i hlt
    simp only [Option.some.injEq, Addr.mk.injEq, and_true] at e3
    obtain ⟨rfl, rfl⟩ := e3
    rw [F0.out i hlt] at d3
    replace d3 := HFR.out.cell d3 hng
    have dz := HFR.out.cell DZ.out hng
    have hstep : ∀ v : Int, p i = p z -> v = (m : Int) -> (rowZ n fun j => if j < i /\ p j = p z then (m : Int) else f j).set i v = rowZ n fun j => if j < i + 1 /\ p j = p z then (m : Int) else f j := fun v e ev => by
     rw [rowZ_set]
     refine rowZ_eq fun j hj => ?_
     by_cases q : j = i
     ·subst q; rw [if_pos rfl, if_pos ⟨by omega, e⟩, ev]
     ·rw [if_neg q]
      by_cases q2 : j < i /\ p j = p z
      ·rw [if_pos q2, if_pos ⟨by omega, q2.2⟩]
      ·rw [if_neg q2, if_neg (fun q3 => q2 ⟨by omega, q3.2⟩)]
    have hkeep : ¬ p i = p z -> (rowZ n fun j => if j < i /\ p j = p z then (m : Int) else f j) = rowZ n fun j => if j < i + 1 /\ p j = p z then (m : Int) else f j := fun e => by
     refine rowZ_eq fun j hj => ?_
     by_cases q2 : j < i /\ p j = p z
     ·rw [if_pos q2, if_pos ⟨by omega, q2.2⟩]
     ·rw [if_neg q2, if_neg (fun q3 => q2 ⟨by
       have : j ≠ i := fun e2 => e (by rw [<- e2]; exact q3.2)
       omega, q3.2⟩)]
    have HST := Lib.hid hstep; have HKP := Lib.hid hkeep
    have kf := World.ownsRow.frozenAt HOW.out i
    obtain ⟨kv, kc⟩ : ∃ x, wr.cell? ⟨g, i, none⟩ = some x := ⟨_, (World.ownsRow.cellAt HOW.out i (by omega)).trans (List.getElem?_eq_getElem (by simp [rowZ]; omega))⟩
    obtain ⟨y1, hy1⟩ : ∃ y, p i = y := ⟨_, rfl⟩
    obtain ⟨y2, hy2⟩ : ∃ y, p z = y := ⟨_, rfl⟩
    rw [hy1] at d3
    rw [hy2] at dz
    have HY1 := Lib.hid hy1; have HY2 := Lib.hid hy2
    clear hstep hkeep hy1 hy2
    by_cases hy : y1 = y2
    ·subst hy
     go_wp2_with fail
     go_big_quiet (fail)
     go_wp2_with fail
     refine ⟨⟨i + 1, by go_num, by omega, Lib.hid ?_, Lib.hid ((HFR.out.drewN nq).set_ (p := ⟨g, i, none⟩) (.inl rfl) _)⟩, by simp [intOf]; omega⟩
     have h := (Own.stored (w := wr.drewN nq) (l := rowZ n fun j => if j < i /\ p j = p z then (m : Int) else f j) HOW.out i (m : Int)).1
     rw [HST.out _ (by rw [HY1.out, HY2.out]) rfl] at h
     exact h
    ·have t2 : ((y1 : Int) == (y2 : Int)) = false := by simp; omega
     have t3 : (y1 == y2) = false := by simpa using hy
     have t6 : ¬ (y1 : Int) = (y2 : Int) := by omega
     go_wp2_with fail
     go_big_quiet (fail)
     go_wp2_with fail
     refine ⟨⟨i + 1, by go_num, by omega, Lib.hid ?_, Lib.hid (HFR.out.drewN nq)⟩, by simp [intOf]; omega⟩
     rw [<- HKP.out (by rw [HY1.out, HY2.out]; exact hy)]
     exact HOW.out
   ·obtain rfl : n = i := by omega
    go_wp2_with fail
    go_end0
    refine ⟨rfl, ?_, HFR.out⟩
    have e : (rowZ n fun j => if j < n /\ p j = p z then (m : Int) else f j) = rowZ n fun j => if p j = p z then (m : Int) else f j := rowZ_eq fun j hj => by
     by_cases q : p j = p z
     ·rw [if_pos ⟨hj, q⟩, if_pos q]
     ·rw [if_neg (fun h => q h.2), if_neg q]
    rw [<- e]
    exact HOW.out
end Go.Proofs.Ytdcokkgdahbinaa
namespace Go.Proofs.Ytdcokkgdahbinaa
open Go Go.RowKit Go.Proofs
def updM (M : Nat -> Bool) (z : Nat) (b : Bool) : Nat -> Bool := fun x => if x = z then b else M x
def falsesN (n : Nat) (M : Nat -> Bool) : Nat := ((List.range n).filter fun x => !M x).length
theorem falses_lt {n z : Nat} {M : Nat -> Bool} (hz : z < n) (h : M z = false) : falsesN n (updM M z true) < falsesN n M := by
 refine filter_lt _ (fun x _ hx => ?_) ⟨z, List.mem_range.2 hz, by simp [updM], by simp [h]⟩
 by_cases e : x = z
 ·simp [updM, e] at hx
 ·simpa [updM, e] using hx
structure MetN (T : List (List Nat)) (k n : Nat) (M0 M : Nat -> Bool) (b : Bool) (i : Nat) : Prop where
 sound : ∀ x, M x = true -> ReachN T k x
 zero : M 0 = true
 no : b = false -> M = M0 /\ ∀ x, x < i -> M x = true -> ∀ a, a < k -> M (trN T x a) = true
 yes : b = true -> falsesN n M < falsesN n M0
structure MetA (T : List (List Nat)) (k n : Nat) (M0 M : Nat -> Bool) (b : Bool) (i a : Nat) : Prop where
 met : MetN T k n M0 M b i
 here : M i = true
 done : b = false -> ∀ c, c < a -> M (trN T i c) = true
section
variable {T : List (List Nat)} {k n i a : Nat} {M0 M : Nat -> Bool} {b : Bool}
theorem MetN.start (h1 : ∀ x, M x = true -> ReachN T k x) (h2 : M 0 = true) : MetN T k n M M false 0 := ⟨h1, h2, fun _ => ⟨rfl, fun x hx => absurd hx (Nat.not_lt_zero x)⟩, fun h => by cases h⟩
theorem MetN.skip (h : MetN T k n M0 M b i) (hi : M i = false) : MetN T k n M0 M b (i + 1) := ⟨h.sound, h.zero, fun e => ⟨(h.no e).1, fun x hx hm => by
 rcases Nat.lt_or_ge x i with q | q
 ·exact (h.no e).2 x q hm
 ·obtain rfl : x = i := by omega
  rw [hi] at hm; cases hm⟩, h.yes⟩
theorem MetN.enter (h : MetN T k n M0 M b i) (hi : M i = true) : MetA T k n M0 M b i 0 := ⟨h, hi, fun _ c hc => absurd hc (Nat.not_lt_zero c)⟩
theorem MetA.leave (h : MetA T k n M0 M b i k) : MetN T k n M0 M b (i + 1) := ⟨h.met.sound, h.met.zero, fun e => ⟨(h.met.no e).1, fun x hx hm => by
 rcases Nat.lt_or_ge x i with q | q
 ·exact (h.met.no e).2 x q hm
 ·obtain rfl : x = i := by omega
  exact h.done e⟩, h.met.yes⟩
theorem MetA.old (h : MetA T k n M0 M b i a) (hm : M (trN T i a) = true) : MetA T k n M0 M b i (a + 1) := ⟨h.met, h.here, fun e c hc => by
 rcases Nat.lt_or_ge c a with q | q
 ·exact h.done e c q
 ·obtain rfl : c = a := by omega
  exact hm⟩
theorem MetA.new_ (h : MetA T k n M0 M b i a) (ha : a < k) (hz : trN T i a < n) (hm : M (trN T i a) = false) : MetA T k n M0 (updM M (trN T i a) true) true i (a + 1) := by
 have hf := falses_lt hz hm
 have hle : falsesN n M <= falsesN n M0 := by
  cases b with
  | false => rw [(h.met.no rfl).1]; exact Nat.le_refl _
  | true => exact Nat.le_of_lt (h.met.yes rfl)
 have up : ∀ x, M x = true -> updM M (trN T i a) true x = true := fun x hx => by
  unfold updM; split
  ·rfl
  ·exact hx
 refine ⟨⟨fun x hx => ?_, up 0 h.met.zero, (fun e => by cases e), (fun _ => by omega)⟩, up i h.here, (fun e => by cases e)⟩
 by_cases e : x = trN T i a
 ·rw [e]; exact .step (h.met.sound i h.here) ha
 ·rw [show updM M (trN T i a) true x = M x by unfold updM; rw [if_neg e]] at hx
  exact h.met.sound x hx
theorem MetN.all (hT : RectN T k) (h : MetN T k n M0 M false n) (hn : T.length = n) {x : Nat} : M x = decide (x ∈ metN T) := by
 rw [Bool.eq_iff_iff, decide_eq_true_iff, met_iff hT]
 refine ⟨h.sound x, fun q => ?_⟩
 induction q with
 | zero => exact h.zero
 | step hs ha ih => exact (h.no rfl).2 _ (by rw [<- hn]; exact hs.lt hT) ih _ ha
end
theorem only_any {w : World} {PA : Option Addr} {pc n gb : Nat} {f : Nat -> Int} {M : Nat -> Bool} (hp : ReadsI w (.slice PA n pc) n (rowZ n f)) (hb : Blk w gb 4 (boolsA n M)) (hn : n <= 1000) (hpos : 0 < n) :
  Calls Try.prog 37 #[.slice PA n pc, sl gb n n] w fun e w' => ∃ v, e = .returned v /\ Own w' w.heap.size v n (rowZ n fun i => if M i then f i else -1) /\ Below w.heap.size w w' := by
  obtain ⟨a1, c1', e1, q3, q4, -⟩ := hp.form
  simp only [Value.slice.injEq, true_and] at e1
  obtain ⟨rfl, rfl⟩ := e1
  obtain ⟨W0, hW0⟩ : ∃ W, w.alloc (.cells #[] 3) = W := ⟨_, rfl⟩
  have hb0 : Below w.heap.size w W0 := by rw [<- hW0]; exact (Below.refl _ _).alloc (Nat.le_refl _) _
  have ho0 : Own W0 w.heap.size (sl w.heap.size 0 0) 0 [] := by rw [<- hW0]; exact Own.none_ _
  have hp0 := hp.below hb0
  have HP := Lib.hid hp; have HB := Lib.hid hb; have HO0 := Lib.hid ho0; have HP0 := Lib.hid hp0; have HB0 := Lib.hid hb0; have HW0 := Lib.hid hW0
  have hz0 : w.heap.size <= W0.heap.size := hb0.size
  clear hp hb ho0 hp0 hb0 hW0
  go_enter Try.func37, Try.ntmps37
  go_wp2_with (at_builtin; rw [HW0.out]; refine wpList_concatI rfl (.tmp 7) (.tmp 8) rfl w.heap.size (sl w.heap.size 0 0) 0 [] (by rfl) HO0.out (.slice PA n pc) n (rowZ n f) (by rfl) HP0.out (by omega) hz0 ?_; intro u8 W1 xr hb1 q2 q3; have XR := Lib.hid xr; have HB1 := Lib.hid hb1; clear xr hb1 q2 q3)
  rw [Nat.zero_add, List.nil_append] at XR
  obtain ⟨g, uc, rfl, hg, l1, l2⟩ : ∃ g uc, u8 = sl g n uc /\ w.heap.size <= g /\ n <= uc /\ uc <= 9223372036854775807 := by
   rcases XR.out.form with ⟨_, e, _⟩ | ⟨g, c, e, h1, _, h2, _⟩
   ·omega
   ·obtain ⟨_, _, e2, _, h3, -⟩ := XR.out.readsI.form
    rw [e] at e2
    simp only [Value.slice.injEq, true_and] at e2
    exact ⟨g, c, e, h1, h2, by rw [e2.2]; exact h3⟩
  have HBW := Lib.hid (HB0.out.trans HB1.out)
  have hgb := HB.out.lt
  have XR0 : Hid (Own W1 w.heap.size (sl g n uc) n (rowZ n fun i => if M i \/ 0 <= i then f i else -1)) := Lib.hid (by
   have e : (rowZ n fun i => if M i \/ 0 <= i then f i else -1) = rowZ n f := rowZ_eq fun i hi => if_pos (.inr (Nat.zero_le _))
   rw [e]; exact XR.out)
  clear XR
  go_loopw [6] (fun vi wr => ∃ i : Nat, vi = .int .i64 (i : Int) /\ i <= n /\ Hid (Own wr w.heap.size (sl g n uc) n (rowZ n fun j => if M j \/ i <= j then f j else -1)) /\ Hid (Below w.heap.size w wr)) (fun vi _ => n - (intOf vi).toNat)
  case atStart => exact ⟨0, rfl, Nat.zero_le _, XR0, HBW⟩
  case round =>
   clear XR0
   obtain ⟨i, rfl, hi, HO, HBR⟩ := hrel
   have i0 : (0 : Int) <= (i : Int) := Int.natCast_nonneg _
   by_cases hlt : i < n
   ·have i1 : (i : Int) < (n : Int) := by omega
    have t1 : decide (i < n) = true := by simpa using hlt
    have hm := (Blk.below HB.out HBR.out hgb).cell i
    rw [boolsA_at _ hlt] at hm
    have kf := World.ownsRow.frozenAt HO.out i
    obtain ⟨kv, kc⟩ : ∃ x, wr.cell? ⟨g, i, none⟩ = some x := ⟨_, (World.ownsRow.cellAt HO.out i (by omega)).trans (List.getElem?_eq_getElem (by simp [rowZ]; omega))⟩
    have hst : M i = false -> (rowZ n fun j => if M j \/ i <= j then f j else -1).set i (-1) = rowZ n fun j => if M j \/ i + 1 <= j then f j else -1 := fun e => by
     rw [rowZ_set]
     refine rowZ_eq fun j hj => ?_
     by_cases q : j = i
     ·subst q; rw [if_pos rfl, if_neg (by rw [e]; simp)]
     ·rw [if_neg q]
      by_cases q2 : M j = true \/ i <= j
      ·rw [if_pos q2, if_pos (q2.elim .inl (fun q3 => .inr (by omega)))]
      ·rw [if_neg q2, if_neg (fun q3 => q2 (q3.elim .inl (fun q4 => .inr (by omega))))]
    have hkp : M i = true -> (rowZ n fun j => if M j \/ i <= j then f j else -1) = rowZ n fun j => if M j \/ i + 1 <= j then f j else -1 := fun e => by
     refine rowZ_eq fun j hj => ?_
     by_cases q2 : M j = true \/ i <= j
     ·rw [if_pos q2, if_pos (by
       by_cases q : j = i
       ·subst q; exact .inl e
       ·exact q2.elim .inl (fun q3 => .inr (by omega)))]
     ·rw [if_neg q2, if_neg (fun q3 => q2 (q3.elim .inl (fun q4 => .inr (by omega))))]
    have HST := Lib.hid hst; have HKP := Lib.hid hkp
    clear hst hkp
    obtain ⟨mi, hmi⟩ : ∃ m, M i = m := ⟨_, rfl⟩
    rw [hmi] at hm
    have HMI := Lib.hid hmi
    clear hmi
    cases mi
    ·go_wp2_with fail
     refine ⟨⟨i + 1, by go_num, by omega, Lib.hid ?_, Lib.hid (HBR.out.setCell (p := ⟨g, i, none⟩) hg _)⟩, by simp [intOf]; omega⟩
     have h := (Own.stored HO.out i (-1)).1
     rw [HST.out HMI.out] at h
     exact h
    ·go_wp2_with fail
     refine ⟨⟨i + 1, by go_num, by omega, Lib.hid ?_, HBR⟩, by simp [intOf]; omega⟩
     rw [<- HKP.out HMI.out]
     exact HO.out
   ·obtain rfl : n = i := by omega
    go_wp2_with fail
    go_ret
    refine ⟨_, rfl, ?_, HBR.out⟩
    have e : (rowZ n fun j => if M j \/ n <= j then f j else -1) = rowZ n fun j => if M j then f j else -1 := rowZ_eq fun j hj => by
     by_cases q : M j = true
     ·rw [if_pos (.inl q), if_pos q]
     ·rw [if_neg (fun h => h.elim q (fun h => by omega)), if_neg q]
    rw [<- e]
    exact HO.out
theorem met_any {w : World} {NA : Option Addr} {nc n k : Nat} {T : List (List Nat)} (h : NextR w (.slice NA n nc) T) (hl : T.length = n) (hT : RectN T k) (hn : n <= 1000) (hk : k <= 1000) (hk0 : 0 < k) :
  Calls Try.prog 38 #[.slice NA n nc] w fun e w' => ∃ g, e = .returned (sl g n n) /\ Blk w' g 4 (boolsA n fun x => decide (x ∈ metN T)) /\ Below w.heap.size w w' := by
  have hpos : 0 < n := by have := hT.pos; omega
  obtain ⟨a1, c1', e1, q1, q2⟩ := h.form
  rw [hl] at q1
  simp only [Value.slice.injEq] at e1
  obtain ⟨rfl, -, rfl⟩ := e1
  obtain ⟨W1, hW1⟩ : ∃ W, w.alloc (.cells (repA n (.bool false)) 4) = W := ⟨_, rfl⟩
  have hb1 : Below w.heap.size w W1 := by rw [<- hW1]; exact (Below.refl _ _).alloc (Nat.le_refl _) _
  obtain ⟨g, hg⟩ : ∃ g, g = w.heap.size := ⟨_, rfl⟩
  have hx1 : Blk W1 g 4 (boolsA n fun _ => false) := by
   have e : boolsA n (fun _ => false) = repA n (.bool false) := by
    unfold repA boolsA
    apply Array.ext
    ·simp
    ·intro i h1 h2; simp
   rw [e, <- hW1, hg]; exact Blk.new _ _ _
  have hmk := mkT_any n hn w
  rw [hW1, <- hg] at hmk
  have k0 := hx1.cell 0
  rw [boolsA_at _ hpos] at k0
  have kf := hx1.frozen 0
  have hn1 : (0 : Int) < (n : Int) := by omega
  have H := Lib.hid h; have HL := Lib.hid hl; have HT := Lib.hid hT; have HB1 := Lib.hid hb1; have X1 := Lib.hid hx1; have HG := Lib.hid hg
  clear h hl hT hb1 hx1 hg hW1
  go_enter Try.func38, Try.ntmps38
  go_wp2_with fail
  have H0 : Hid (Blk (W1.setCell ⟨g, 0, none⟩ (.bool true)) g 4 (boolsA n (updM (fun _ => false) 0 true))) := Lib.hid (by
   have := X1.out.set_ 0 (.bool true)
   rw [boolsA_set (fun _ => false) (updM (fun _ => false) 0 true) (by simp [updM]) (fun z hz => by simp [updM, hz])] at this
   exact this)
  have HB2 : Hid (Below w.heap.size w (W1.setCell ⟨g, 0, none⟩ (.bool true))) := Lib.hid (HB1.out.setCell (p := ⟨g, 0, none⟩) (Nat.le_of_eq HG.out.symm) _)
  generalize W1.setCell ⟨g, 0, none⟩ (.bool true) = V1 at *
  clear hmk k0 kf
  have HS0 : Hid ((∀ x, updM (fun _ => false) 0 true x = true -> ReachN T k x) /\ updM (fun _ => false) 0 true 0 = true) := Lib.hid ⟨fun x hx => by
   by_cases e : x = 0
   ·rw [e]; exact .zero
   ·simp [updM, e] at hx, by simp [updM]⟩
  have k1 : (0 : Int) < (k : Int) := by omega
  have hgw : w.heap.size <= g := Nat.le_of_eq HG.out.symm
  generalize updM (fun _ => false) 0 true = M1 at *
  go_loopg [4] (2 * falsesN n M1 + 1) (fun gk v4 wr => ∃ (M : Nat -> Bool) (b : Bool), v4 = .bool b /\ Hid (gk = 2 * falsesN n M + (if b then 1 else 0)) /\ Hid (Blk wr g 4 (boolsA n M)) /\ Hid ((∀ x, M x = true -> ReachN T k x) /\ M 0 = true) /\ Hid (b = false -> ∀ x, x < n -> M x = decide (x ∈ metN T)) /\ Hid (Below w.heap.size w wr))
  case atStart => exact ⟨M1, true, rfl, Lib.hid (by simp), H0, HS0, Lib.hid (fun e => by cases e), HB2⟩
  case round =>
   clear H0 HS0 HB2
   obtain ⟨M, b, rfl, HGK, HX, HS, HE, HB⟩ := hrel
   cases b
   ·have he := HE.out rfl
    have HE2 := Lib.hid he
    clear he HE
    go_wp2_with fail
    go_ret
    refine ⟨g, rfl, ?_, HB.out⟩
    have e : boolsA n (fun x => decide (x ∈ metN T)) = boolsA n M := by
     unfold boolsA
     congr 1
     exact List.map_congr_left fun j hj => by rw [HE2.out j (List.mem_range.1 hj)]
    rw [e]
    exact HX.out
   ·clear HE
    go_wp2_with fail
    obtain ⟨wo, hwo⟩ : ∃ wo, wo = wr := ⟨_, rfl⟩
    subst hwo
    have HM0 : Hid (MetN T k n M M false 0) := Lib.hid (MetN.start HS.out.1 HS.out.2)
    go_loopw [4, 5] (fun v4 vi wr => ∃ (i : Nat) (M' : Nat -> Bool) (b : Bool), v4 = .bool b /\ vi = .int .i64 (i : Int) /\ i <= n /\ Hid (Blk wr g 4 (boolsA n M')) /\ Hid (MetN T k n M M' b i) /\ Hid (Below w.heap.size w wr)) (fun _ vi _ => n - (intOf vi).toNat)
    case atStart => exact ⟨0, M, false, rfl, rfl, Nat.zero_le _, HX, HM0, HB⟩
    case round =>
     clear HM0 HX HB
     obtain ⟨i, M', b, rfl, rfl, hi, HX, HM, HB⟩ := hrel
     have i0 : (0 : Int) <= (i : Int) := Int.natCast_nonneg _
     by_cases hlt : i < n
     ·have i1 : (i : Int) < (n : Int) := by omega
      have t1 : decide (i < n) = true := by simpa using hlt
      obtain ⟨g1, o1, A1, m1, c1, e1, hm1, d1, r1, l1, l2⟩ := H.out.at_ (i := i) (by rw [HL.out]; exact hlt)
      subst e1
      obtain rfl : k = m1 := by rw [hm1]; exact (HT.out.len i (by rw [HL.out]; exact hlt)).symm
      have R1 := Lib.hid r1; have D1 := Lib.hid d1
      have HI : Hid ((M' i = false /\ (0 : Nat) = 0 /\ MetN T k n M M' b i) \/ MetA T k n M M' b i 0) := Lib.hid (by
       cases hmi : M' i with
       | false => exact .inl ⟨rfl, rfl, HM.out⟩
       | true => exact .inr (HM.out.enter hmi))
      clear r1 hm1 d1 HM
      go_wp2_with fail
      obtain ⟨wo, hwo⟩ : ∃ wo, wo = wr := ⟨_, rfl⟩
      subst hwo
      go_loopw [4, 6] (fun v4 va wr => ∃ (a : Nat) (M' : Nat -> Bool) (b : Bool), v4 = .bool b /\ va = .int .i64 (a : Int) /\ a <= k /\ Hid (Blk wr g 4 (boolsA n M')) /\ Hid ((M' i = false /\ a = 0 /\ MetN T k n M M' b i) \/ MetA T k n M M' b i a) /\ Hid (Below w.heap.size w wr)) (fun _ va _ => k - (intOf va).toNat)
      case atStart => exact ⟨0, M', b, rfl, rfl, Nat.zero_le _, HX, Lib.hid (HI.out.elim (fun h => .inl ⟨h.1, rfl, h.2.2⟩) .inr), HB⟩
      case round =>
       clear HI HX HB
       obtain ⟨a, M', b, rfl, rfl, ha, HX, HM, HB⟩ := hrel
       have a0 : (0 : Int) <= (a : Int) := Int.natCast_nonneg _
       have d1 := bel_m HB.out D1.out
       have hmi := HX.out.cell i
       rw [boolsA_at _ hlt] at hmi
       rcases HM.out with ⟨hf, rfl, hM⟩ | hM
       ·rw [hf] at hmi
        have HM2 := Lib.hid hM.skip
        have HFF := Lib.hid hf
        clear HM hM hf
        have t2 : decide (0 < k) = true := by simpa using hk0
        go_wp2_with fail
        exact ⟨⟨i + 1, M', b, rfl, by go_num, by omega, HX, Lib.hid (HM2.out HFF.out), HB⟩, by simp [intOf]; omega⟩
       ·rw [hM.here] at hmi
        have HMA := Lib.hid hM
        clear HM hM
        by_cases hlta : a < k
        ·have a1 : (a : Int) < (k : Int) := by omega
         have t2 : decide (a < k) = true := by simpa using hlta
         obtain ⟨g3, o3, rfl, -, d3⟩ := R1.out.at a hlta
         have e3 : (intsN (T.getD i [])).getD a 0 = ((trN T i a : Nat) : Int) := by rw [intsN_at]; rfl
         rw [e3] at d3
         replace d3 := bel_m HB.out d3
         have hz := HT.out.lt i a (by rw [HL.out]; exact hlt) hlta
         rw [HL.out] at hz
         have hmz := HX.out.cell (trN T i a)
         rw [boolsA_at _ hz] at hmz
         have kf := HX.out.frozen (trN T i a)
         obtain ⟨z, hze⟩ : ∃ z, trN T i a = z := ⟨_, rfl⟩
         have HZ := Lib.hid hze
         rw [hze] at d3 hz hmz kf
         have z0 : (0 : Int) <= (z : Int) := Int.natCast_nonneg _
         have z1 : (z : Int) < (n : Int) := by omega
         obtain ⟨mz, hmze⟩ : ∃ m, M' z = m := ⟨_, rfl⟩
         rw [hmze] at hmz
         have HMZ := Lib.hid hmze
         clear e3 hze hmze
         cases mz
         ·go_wp2_with fail
          refine ⟨⟨a + 1, updM M' z true, true, rfl, by go_num, by omega, Lib.hid ?_, Lib.hid (.inr ?_), Lib.hid (HB.out.setCell (p := ⟨g, z, none⟩) hgw _)⟩, by simp [intOf]; omega⟩
          ·have := HX.out.set_ z (.bool true)
           rw [boolsA_set M' (updM M' z true) (by simp [updM]) (fun y hy => by simp [updM, hy])] at this
           exact this
          ·have := HMA.out.new_ hlta (by rw [HZ.out]; exact hz) (by rw [HZ.out]; exact HMZ.out)
           rw [HZ.out] at this
           exact this
         ·go_wp2_with fail
          exact ⟨⟨a + 1, M', b, rfl, by go_num, by omega, HX, Lib.hid (.inr (HMA.out.old (by rw [HZ.out]; exact HMZ.out))), HB⟩, by simp [intOf]; omega⟩
        ·obtain rfl : k = a := by omega
         go_wp2_with fail
         exact ⟨⟨i + 1, M', b, rfl, by go_num, by omega, HX, Lib.hid HMA.out.leave, HB⟩, by simp [intOf]; omega⟩
     ·obtain rfl : n = i := by omega
      go_wp2_with fail
      go_roundg (2 * falsesN n M' + (if b then 1 else 0))
      case measure =>
       have h1 := HGK.out
       cases b with
       | false =>
         have h2 := (HM.out.no rfl).1
         rw [h2]
         simp at h1 ⊢
         omega
       | true =>
         have h2 := HM.out.yes rfl
         simp at h1 ⊢
         omega
      case rel =>
       refine ⟨M', b, rfl, Lib.hid rfl, HX, Lib.hid ⟨HM.out.sound, HM.out.zero⟩, Lib.hid (fun e x hx => ?_), HB⟩
       subst e
       exact HM.out.all HT.out HL.out
end Go.Proofs.Ytdcokkgdahbinaa
