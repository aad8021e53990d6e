/- The chapter's own parts. -/
import Derived.Test.YtdcokkgdahbinaaVMiniRb
set_option linter.unusedVariables false
set_option linter.unusedSimpArgs false
set_option maxRecDepth 100000
set_option maxHeartbeats 8000000
namespace Go.Proofs.Ytdcokkgdahbinaa
open Go Go.RowKit Go.Proofs
theorem rowZ_ext {n : Nat} {f g : Nat -> Int} : rowZ n f = rowZ n g ↔ ∀ x, x < n -> f x = g x := by
 constructor
 ·intro h x hx
  have := congrArg (fun l => l.getD x 0) h
  rw [rowZ_get _ hx, rowZ_get _ hx] at this
  exact this
 ·exact rowZ_eq
theorem ints_dec {w : World} {A1 A2 : Option Addr} {n c1 c2 : Nat} {f1 f2 : Nat -> Int} {b : Bool} (h1 : ReadsI w (.slice A1 n c1) n (rowZ n f1)) (h2 : ReadsI w (.slice A2 n c2) n (rowZ n f2)) (hb : b = true ↔ ∀ x, x < n -> f1 x = f2 x) :
  Calls Try.prog 21 #[.slice A1 n c1, .slice A2 n c2] w fun e w' => e = .returned (.bool b) /\ ∃ d, w' = w.drewN d := by
  obtain ⟨a1, c1', e1, q1, q2, -⟩ := h1.form
  obtain ⟨a2, c2', e2, q3, q4, -⟩ := h2.form
  simp only [Value.slice.injEq, true_and] at e1 e2
  obtain ⟨rfl, rfl⟩ := e1
  obtain ⟨rfl, rfl⟩ := e2
  have H1 := Lib.hid h1; have H2 := Lib.hid h2; have HB := Lib.hid hb
  clear h1 h2 hb
  go_enter Try.func21, Try.ntmps21
  go_wp2_with fail
  go_loopw [5] (fun vi wr => ∃ i d : Nat, vi = .int .i64 (i : Int) /\ i <= n /\ Hid (∀ x, x < i -> f1 x = f2 x) /\ wr = w.drewN d) (fun vi _ => n - (intOf vi).toNat)
  case atStart => exact ⟨0, 0, rfl, Nat.zero_le _, Lib.hid (fun x hx => absurd hx (Nat.not_lt_zero x)), rfl⟩
  case round =>
   obtain ⟨i, d, rfl, hi, HE, rfl⟩ := hrel
   have i0 : (0 : Int) <= (i : Int) := Int.natCast_nonneg _
   by_cases hlt : i < n
   ·have i1 : (i : Int) < (n : Int) := by omega
    have t1 : decide (i < n) = true := by simpa using hlt
    obtain ⟨g1, o1, e1, -, r1⟩ := H1.out.at i hlt
    obtain ⟨g2, o2, e2, -, r2⟩ := H2.out.at i hlt
    subst e1 e2
    rw [rowZ_get _ hlt] at r1 r2
    obtain ⟨y1, hy1⟩ : ∃ y, f1 i = y := ⟨_, rfl⟩
    obtain ⟨y2, hy2⟩ : ∃ y, f2 i = y := ⟨_, rfl⟩
    rw [hy1] at r1
    rw [hy2] at r2
    have HY1 := Lib.hid hy1; have HY2 := Lib.hid hy2
    clear hy1 hy2
    by_cases hy : y1 = y2
    ·have HE2 : Hid (∀ x, x < i + 1 -> f1 x = f2 x) := Lib.hid (fun x hx => by
      rcases Nat.lt_or_ge x i with q | q
      ·exact HE.out x q
      ·obtain rfl : x = i := by omega
       rw [HY1.out, HY2.out, hy])
     subst hy
     go_wp2_with fail
     go_big_quiet (fail)
     go_wp2_with fail
     exact ⟨⟨i + 1, _, by go_num, by omega, HE2, rfl⟩, by simp [intOf]; omega⟩
    ·have t2 : (y1 == y2) = false := by simpa using hy
     have t4 : (y1 != y2) = true := by simpa using hy
     have HF : Hid (b = false) := Lib.hid (by
      cases b with
      | false => rfl
      | true => exact absurd (HB.out.1 rfl i hlt) (by rw [HY1.out, HY2.out]; exact hy))
     go_wp2_with fail
     go_big_quiet (fail)
     go_wp2_with fail
     go_ret
     exact ⟨by rw [HF.out]; rfl, _, World.drewN_drewN _ _ _⟩
   ·obtain rfl : n = i := by omega
    have HF : Hid (b = true) := Lib.hid (HB.out.2 HE.out)
    go_wp2_with fail
    go_ret
    exact ⟨by rw [HF.out]; rfl, d, rfl⟩
theorem agree_quiet {w : World} {NA PA : Option Addr} {nc pc n k a b : Nat} {T : List (List Nat)} {p : Nat -> Nat} (h : NextR w (.slice NA n nc) T) (hl : T.length = n) (hT : RectN T k) (hp : ReadsI w (.slice PA n pc) n (rowN n p)) (ha : a < n) (hb : b < n) (d : Nat) :
  Calls Try.prog 58 #[.slice NA n nc, .slice PA n pc, .int .i64 (a : Int), .int .i64 (b : Int)] (w.drewN d) fun e w' => e = .returned (.bool (agrB T k p a b k)) /\ ∃ m, w' = w.drewN m :=
  Calls.quiet_of (agree_any (w := w.drewN d) h hl hT (hp.dr d) ha hb)
theorem lv_next {α : Type} {T : List (List Nat)} {k n r : Nat} {g : Nat -> α} (hl : T.length = n) (hT : RectN T k) {a b : Nat} (ha : a < n) (hb : b < n) :
  lvR T k g (r + 1) a b = ((labF (lvR T k g r) n a == labF (lvR T k g r) n b) && agrB T k (labF (lvR T k g r) n) a b k) := by
  rw [Bool.eq_iff_iff, lvR_succ, Bool.and_eq_true, beq_iff_eq, lab_iff (lvR_eqv r) ha hb]
  refine and_congr_right fun _ => ?_
  unfold agrB
  rw [List.all_eq_true]
  have ht : ∀ x a, x < n -> a < k -> trN T x a < n := fun x a hx ha' => by have := hT.lt x a (by omega) ha'; omega
  constructor
  ·intro h i hi
   rw [beq_iff_eq, lab_iff (lvR_eqv r) (ht a i ha (List.mem_range.1 hi)) (ht b i hb (List.mem_range.1 hi))]
   exact h i (List.mem_range.1 hi)
  ·intro h i hi
   have := h i (List.mem_range.2 hi)
   rw [beq_iff_eq, lab_iff (lvR_eqv r) (ht a i ha hi) (ht b i hb hi)] at this
   exact this
def thF (R : Nat -> Nat -> Bool) (n i : Nat) (v : Int) : Nat -> Int := fun j => if j < i then ((labF R n j : Nat) : Int) else if j = i then v else 0
theorem thF_set (R : Nat -> Nat -> Bool) (n i : Nat) (v u : Int) : (rowZ n (thF R n i v)).set i u = rowZ n (thF R n i u) := by
 rw [rowZ_set]
 refine rowZ_eq fun j hj => ?_
 unfold thF
 by_cases q : j = i
 ·subst q; rw [if_pos rfl, if_neg (Nat.lt_irrefl j), if_pos rfl]
 ·rw [if_neg q]
  by_cases q2 : j < i
  ·rw [if_pos q2, if_pos q2]
  ·rw [if_neg q2, if_neg q2, if_neg q, if_neg q]
theorem thF_at (R : Nat -> Nat -> Bool) (n i : Nat) (v : Int) : thF R n i v i = v := by unfold thF; rw [if_neg (Nat.lt_irrefl i), if_pos rfl]
theorem thF_lt (R : Nat -> Nat -> Bool) (n : Nat) {i j : Nat} (v : Int) (h : j < i) : thF R n i v j = ((labF R n j : Nat) : Int) := by unfold thF; rw [if_pos h]
theorem thF_done (R : Nat -> Nat -> Bool) (n i : Nat) {v : Int} (h : v = ((labF R n i : Nat) : Int)) : rowZ n (thF R n i v) = rowZ n (thF R n (i + 1) 0) := by
 refine rowZ_eq fun j hj => ?_
 unfold thF
 by_cases q : j = i
 ·subst q; rw [if_neg (Nat.lt_irrefl j), if_pos rfl, if_pos (Nat.lt_succ_self j), h]
 ·by_cases q2 : j < i
  ·rw [if_pos q2, if_pos (by omega)]
  ·rw [if_neg q2, if_neg q, if_neg (by omega)]; split <;> rfl
theorem thF_start (R : Nat -> Nat -> Bool) (n : Nat) : rowN n (fun _ => 0) = rowZ n (thF R n 0 0) := by
 show rowZ n (fun _ => ((0 : Nat) : Int)) = _
 refine rowZ_eq fun j hj => ?_
 unfold thF
 rw [if_neg (Nat.not_lt_zero j)]
 split <;> rfl
theorem thF_all (R : Nat -> Nat -> Bool) (n : Nat) : rowZ n (thF R n n 0) = rowN n (labF R n) := by
 show _ = rowZ n (fun i => ((labF R n i : Nat) : Int))
 refine rowZ_eq fun j hj => ?_
 unfold thF
 rw [if_pos hj]
theorem parts_any {α : Type} {w : World} {NA PA : Option Addr} {nc pc n k : Nat} {T : List (List Nat)} {g : Nat -> α} (h : NextR w (.slice NA n nc) T) (hl : T.length = n) (hT : RectN T k) (hp : ReadsI w (.slice PA n pc) n (rowN n (labF (lvR T k g 0) n))) (hn : n <= 1000) :
  Calls Try.prog 36 #[.slice NA n nc, .slice PA n pc] w fun e w' => ∃ A c r, e = .returned (.slice A n c) /\ ReadsI w' (.slice A n c) n (rowN n (labF (lvR T k g r) n)) /\ (∀ x y, x < n -> y < n -> (lvR T k g r x y = true ↔ AlikeN T k g x y)) /\ n <= c /\ c <= 9223372036854775807 /\ Below w.heap.size w w' := by
  obtain ⟨a1, c1', e1, q1, q2⟩ := h.form
  rw [hl] at q1
  simp only [Value.slice.injEq] at e1
  obtain ⟨rfl, -, rfl⟩ := e1
  obtain ⟨a1, c1', e1, q3, q4, -⟩ := hp.form
  simp only [Value.slice.injEq, true_and] at e1
  obtain ⟨rfl, rfl⟩ := e1
  have H := Lib.hid h; have HL := Lib.hid hl; have HT := Lib.hid hT; have HP := Lib.hid hp
  clear h hl hT hp
  have n0 : (0 : Int) <= (n : Int) := Int.natCast_nonneg _
  go_enter Try.func36, Try.ntmps36
  go_wp2_with fail
  go_loopg [5] (n + 1 - lvC T k g 0) (fun gk v5 wr => ∃ (r : Nat) (A : Option Addr) (c : Nat), v5 = .slice A n c /\ n <= c /\ c <= 9223372036854775807 /\ Hid (gk = n + 1 - lvC T k g r) /\ Hid (ReadsI wr (.slice A n c) n (rowN n (labF (lvR T k g r) n))) /\ Hid (Below w.heap.size w wr))
  case atStart => exact ⟨0, PA, pc, rfl, q3, q4, Lib.hid rfl, HP, Lib.hid (Below.refl _ _)⟩
  case round =>
   clear HP
   obtain ⟨r, A, c, rfl, hc, hc2, HGK, HP, HB⟩ := hrel
   have hmk := mkI_any n hn wr
   have ho1 := own_mk n hn wr
   have hb1 : Below wr.heap.size wr (wr.alloc (.cells (repA n (.int .i64 0)) 3)) := (Below.refl _ _).alloc (Nat.le_refl _) _
   obtain ⟨W1, hW1⟩ : ∃ W1, W1 = wr := ⟨_, rfl⟩
   subst hW1
   obtain ⟨V1, hV1⟩ : ∃ V, W1.alloc (.cells (repA n (.int .i64 0)) 3) = V := ⟨_, rfl⟩
   rw [hV1] at hmk ho1 hb1
   obtain ⟨g0, hg0⟩ : ∃ g, g = W1.heap.size := ⟨_, rfl⟩
   rw [<- hg0] at hmk ho1 hb1
   rw [thF_start (lvR T k g (r + 1)) n] at ho1
   have HO1 := Lib.hid ho1; have HB1 := Lib.hid hb1; have HG0 := Lib.hid hg0
   have HRE := Lib.hid (lvR_eqv (T := T) (k := k) (g := g) r); have HRE' := Lib.hid (lvR_eqv (T := T) (k := k) (g := g) (r + 1))
   have HNX : Hid (∀ a b, a < n -> b < n -> lvR T k g (r + 1) a b = ((labF (lvR T k g r) n a == labF (lvR T k g r) n b) && agrB T k (labF (lvR T k g r) n) a b k)) := Lib.hid (fun a b ha hb => lv_next HL.out HT.out ha hb)
   have HLE : Hid (lvC T k g (r + 1) <= n) := Lib.hid (by rw [<- HL.out]; exact lvC_le _)
   have HEQ : Hid ((∀ x, x < n -> labF (lvR T k g (r + 1)) n x = labF (lvR T k g r) n x) -> ∀ x y, x < n -> y < n -> (lvR T k g r x y = true ↔ AlikeN T k g x y)) := Lib.hid (fun e x y hx hy => by
    have e2 := (lab_same (lvR_eqv (T := T) (k := k) (g := g) (r + 1)) (lvR_eqv r)).1 e
    exact lv_stable HT.out (fun x y hx hy => (e2 x y (by rw [<- HL.out]; exact hx) (by rw [<- HL.out]; exact hy)).symm) (by rw [HL.out]; exact hx) (by rw [HL.out]; exact hy))
   have HNE : Hid (¬ (∀ x, x < n -> labF (lvR T k g (r + 1)) n x = labF (lvR T k g r) n x) -> lvC T k g r < lvC T k g (r + 1)) := Lib.hid (fun e => by
    refine lvC_lt (Classical.byContradiction fun q => e ?_)
    refine (lab_same (lvR_eqv (T := T) (k := k) (g := g) (r + 1)) (lvR_eqv r)).2 (fun x y hx hy => Classical.byContradiction fun q2 => q ⟨x, y, by rw [HL.out]; exact hx, by rw [HL.out]; exact hy, fun q3 => q2 q3.symm⟩))
   have hcr : lvC T k g r <= n := by rw [<- HL.out]; exact lvC_le _
   have HCR := Lib.hid hcr
   clear hV1 ho1 hb1 hg0 hcr
   generalize lvC T k g r = c0 at *
   generalize hc1 : lvC T k g (r + 1) = c1 at *
   have HC1 := Lib.hid hc1
   clear hc1
   obtain ⟨R, hR⟩ : ∃ R, lvR T k g r = R := ⟨_, rfl⟩
   obtain ⟨R', hR'⟩ : ∃ R', lvR T k g (r + 1) = R' := ⟨_, rfl⟩
   rw [hR] at HP HRE HNX HEQ HNE
   rw [hR'] at HO1 HRE' HNX HEQ HNE
   have HRR := Lib.hid hR; have HRR' := Lib.hid hR'
   clear hR hR'
   go_wp2_with fail
   clear hmk
   go_loopw [7, 8] (fun v7 vi wr => ∃ i : Nat, vi = .int .i64 (i : Int) /\ i <= n /\ v7 = .int .i64 ((labC R' i : Nat) : Int) /\ Hid (Own wr g0 (sl g0 n n) n (rowZ n (thF R' n i 0))) /\ Hid (Below g0 W1 wr)) (fun _ vi _ => n - (intOf vi).toNat)
   case atStart => exact ⟨0, rfl, Nat.zero_le _, rfl, HO1, HB1⟩
   case round =>
    clear HO1 HB1
    obtain ⟨i, rfl, hi, rfl, HO, HBW⟩ := hrel
    have i0 : (0 : Int) <= (i : Int) := Int.natCast_nonneg _
    by_cases hlt : i < n
    ·have i1 : (i : Int) < (n : Int) := by omega
     have t1 : decide (i < n) = true := by simpa using hlt
     have kf := World.ownsRow.frozenAt HO.out i
     obtain ⟨kv, kc⟩ : ∃ x, wr.cell? ⟨g0, i, none⟩ = some x := ⟨_, (World.ownsRow.cellAt HO.out i (by omega)).trans (List.getElem?_eq_getElem (by simp [rowZ]; omega))⟩
     have HO2 : Hid (Own (wr.setCell ⟨g0, i, none⟩ (.int .i64 (-1))) g0 (sl g0 n n) n (rowZ n (thF R' n i (-1)))) := Lib.hid (by
      have h := (Own.stored HO.out i (-1)).1
      rw [thF_set] at h
      exact h)
     have HB2 := Lib.hid (HBW.out.setCell (p := ⟨g0, i, none⟩) (Nat.le_refl _) (.int .i64 (-1)))
     have hcl := labC_le R' i
     generalize hcn : labC R' i = cn at *
     have HCN := Lib.hid hcn
     clear hcn HO
     go_wp2_with fail
     clear kf kc
     generalize wr.setCell ⟨g0, i, none⟩ (.int .i64 (-1)) = V2 at *
     obtain ⟨wo, hwo⟩ : ∃ wo, wo = wr := ⟨_, rfl⟩
     clear hwo HBW
     go_loopw [9] (fun vk wr => ∃ (q : Nat) (v : Int), vk = .int .i64 (q : Int) /\ q <= i /\ Hid (Own wr g0 (sl g0 n n) n (rowZ n (thF R' n i v))) /\ Hid ((v = -1 /\ ∀ j, j < q -> R' j i = false) \/ (v = ((labF R' n i : Nat) : Int) /\ ∃ j, j < i /\ R' j i = true)) /\ Hid (Below g0 W1 wr)) (fun vk _ => i - (intOf vk).toNat)
     case atStart => exact ⟨0, -1, rfl, Nat.zero_le _, HO2, Lib.hid (.inl ⟨rfl, fun j hj => absurd hj (Nat.not_lt_zero j)⟩), HB2⟩
     case round =>
      clear HO2 HB2
      obtain ⟨q, v, rfl, hq, HO, HV, HBW⟩ := hrel
      have q0 : (0 : Int) <= (q : Int) := Int.natCast_nonneg _
      obtain ⟨_, _, ei, _, ci⟩ := HO.out.readsI.at i hlt
      simp only [sl, Option.some.injEq, Addr.mk.injEq, and_true] at ei
      obtain ⟨rfl, rfl⟩ := ei
      rw [rowZ_get _ hlt, thF_at, Nat.zero_add] at ci
      have kf := World.ownsRow.frozenAt HO.out i
      rcases HV.out with ⟨rfl, hno⟩ | ⟨hv, j, hj, hyes⟩
      ·by_cases hlq : q < i
       ·have qi : (q : Int) < (i : Int) := by omega
        have t2 : decide (q < i) = true := by simpa using hlq
        have hqn : q < n := by omega
        have q1 : (q : Int) < (n : Int) := by omega
        obtain ⟨_, _, eq, _, cq⟩ := HO.out.readsI.at q hqn
        simp only [sl, Option.some.injEq, Addr.mk.injEq, and_true] at eq
        obtain ⟨rfl, rfl⟩ := eq
        rw [rowZ_get _ hqn, thF_lt _ _ _ hlq, Nat.zero_add] at cq
        have hbw : Below W1.heap.size W1 wr := by rw [<- HG0.out]; exact HBW.out
        have hp := HP.out.below hbw
        obtain ⟨g3, o3, e3, -, d3⟩ := hp.at q hqn
        obtain ⟨g4, o4, e4, -, d4⟩ := hp.at i hlt
        subst e3
        simp only [Option.some.injEq, Addr.mk.injEq, and_true] at e4
        obtain ⟨rfl, rfl⟩ := e4
        have f3 : (rowN n (labF R n)).getD q 0 = ((labF R n q : Nat) : Int) := by simp [rowN, hqn]
        have f4 : (rowN n (labF R n)).getD i 0 = ((labF R n i : Nat) : Int) := by simp [rowN, hlt]
        rw [f3] at d3
        rw [f4] at d4
        have HAG := Lib.hid (agree_quiet ((H.out.below HB.out).below hbw) HL.out HT.out hp hqn hlt)
        have hnx := HNX.out q i hqn hlt
        have HNO := Lib.hid hno; have HNXq := Lib.hid hnx
        have HCG : Hid (R' q i = true -> labF R' n q = labF R' n i) := Lib.hid (fun e => lab_congr HRE'.out e)
        clear hno hnx hbw hp f3 f4 HV
        obtain ⟨y1, hy1⟩ : ∃ y, labF R n q = y := ⟨_, rfl⟩
        obtain ⟨y2, hy2⟩ : ∃ y, labF R n i = y := ⟨_, rfl⟩
        rw [hy1] at d3 HNXq
        rw [hy2] at d4 HNXq
        obtain ⟨lq, hlqe⟩ : ∃ y, labF R' n q = y := ⟨_, rfl⟩
        rw [hlqe] at cq HCG
        clear hy1 hy2 hlqe
        by_cases hy : y1 = y2
        ·subst hy
         cases hag : agrB T k (labF R n) q i k with
         | true =>
           rw [hag] at HAG HNXq
           have hrq : R' q i = true := by rw [HNXq.out]; simp
           have HRQ := Lib.hid hrq
           clear hag hrq
           go_wp2_with fail
           go_quiet ((go_at_call 58; exact HAG.out _))
           go_wp2_with fail
           refine ⟨⟨q + 1, ((lq : Nat) : Int), by go_num, by omega, Lib.hid ?_, Lib.hid (.inr ⟨by rw [HCG.out HRQ.out], q, hlq, HRQ.out⟩), Lib.hid ((below_drewN HBW.out nq).setCell (p := ⟨g0, i, none⟩) (Nat.le_refl _) _)⟩, by simp [intOf]; omega⟩
           have h := (Own.stored (w := wr.drewN nq) (l := rowZ n (thF R' n i (-1))) HO.out i (lq : Int)).1
           rw [thF_set] at h
           exact h
         | false =>
           rw [hag] at HAG HNXq
           have hrq : R' q i = false := by rw [HNXq.out]; simp
           have HRQ := Lib.hid hrq
           clear hag hrq
           go_wp2_with fail
           go_quiet ((go_at_call 58; exact HAG.out _))
           go_wp2_with fail
           refine ⟨⟨q + 1, -1, by go_num, by omega, HO, Lib.hid (.inl ⟨rfl, fun j hj => ?_⟩), Lib.hid (below_drewN HBW.out nq)⟩, by simp [intOf]; omega⟩
           rcases Nat.lt_or_ge j q with z | z
           ·exact HNO.out j z
           ·obtain rfl : j = q := by omega
            exact HRQ.out
        ·have t3 : ((y1 : Int) == (y2 : Int)) = false := by simp; omega
         have t4 : (y1 == y2) = false := by simpa using hy
         have t5 : ¬ (y1 : Int) = (y2 : Int) := by omega
         have hrq : R' q i = false := by rw [HNXq.out, t4]; rfl
         have HRQ := Lib.hid hrq
         clear hrq
         go_wp2_with fail
         go_quiet (fail)
         go_wp2_with fail
         refine ⟨⟨q + 1, -1, by go_num, by omega, HO, Lib.hid (.inl ⟨rfl, fun j hj => ?_⟩), Lib.hid (below_drewN HBW.out nq)⟩, by simp [intOf]; omega⟩
         rcases Nat.lt_or_ge j q with z | z
         ·exact HNO.out j z
         ·obtain rfl : j = q := by omega
          exact HRQ.out
       ·obtain rfl : i = q := by omega
        obtain ⟨hn1, hn2⟩ := lab_new HRE'.out hlt hno
        rw [HCN.out] at hn1 hn2
        have HN1 := Lib.hid hn1; have HN2 := Lib.hid hn2
        have t2 : decide (i < i) = false := by simp
        obtain ⟨kv, kc⟩ : ∃ x, wr.cell? ⟨g0, i, none⟩ = some x := ⟨_, ci⟩
        have cn0 : (0 : Int) <= (cn : Int) := Int.natCast_nonneg _
        clear hn1 hn2 hno HV kc
        go_wp2_with fail
        refine ⟨⟨i + 1, by go_num, by omega, by rw [HN2.out]; go_num, Lib.hid ?_, Lib.hid (HBW.out.setCell (p := ⟨g0, i, none⟩) (Nat.le_refl _) _)⟩, by simp [intOf]; omega⟩
        have h := (Own.stored HO.out i (cn : Int)).1
        rw [thF_set, thF_done R' n i (by rw [HN1.out])] at h
        exact h
      ·have hv0 : ¬ v < 0 := by rw [hv]; omega
       have hv1 : decide (v < 0) = false := by simpa using hv0
       have HVE := Lib.hid hv
       have HOL := Lib.hid (lab_old HRE'.out hj hyes)
       rw [HCN.out] at HOL
       clear hv hyes HV
       have hT2 : decide (q < i) = true \/ decide (q < i) = false := by cases decide (q < i) <;> simp
       have hqi : q < i \/ ¬ q < i := by omega
       rcases hqi with hqi | hqi
       ·have t2 : decide (q < i) = true := by simpa using hqi
        have t3 : (q : Int) < (i : Int) := by omega
        clear hT2
        go_wp2_with fail
        refine ⟨⟨i + 1, by go_num, by omega, by rw [HOL.out], Lib.hid ?_, HBW⟩, by simp [intOf]; omega⟩
        rw [<- thF_done R' n i HVE.out]
        exact HO.out
       ·have t2 : decide (q < i) = false := by simpa using hqi
        have t3 : ¬ (q : Int) < (i : Int) := by omega
        clear hT2
        go_wp2_with fail
        refine ⟨⟨i + 1, by go_num, by omega, by rw [HOL.out], Lib.hid ?_, HBW⟩, by simp [intOf]; omega⟩
        rw [<- thF_done R' n i HVE.out]
        exact HO.out
    ·obtain rfl : n = i := by omega
     have hO := HO.out
     rw [thF_all] at hO
     have hbw : Below W1.heap.size W1 wr := by rw [<- HG0.out]; exact HBW.out
     have hp := HP.out.below hbw
     have hbb := HB.out.trans (hbw.mono HB.out.size)
     have hro := hO.readsI
     have HRO := Lib.hid hro; have HPW := Lib.hid hp; have HBB := Lib.hid hbb
     clear hO hbw hp hbb hro HO HBW
     by_cases heq : ∀ x, x < n -> labF R' n x = labF R n x
     ·have hin := ints_dec (b := true) HRO.out HPW.out (by
       refine ⟨fun _ x hx => by rw [heq x hx], fun _ => rfl⟩)
      have HIN := Lib.hid hin; have HQ := Lib.hid (HEQ.out heq)
      clear hin heq
      go_wp2_with fail
      refine HIN.out.mono ?_
      rintro e w2 ⟨rfl, d, rfl⟩
      go_wp2_with fail
      go_ret
      exact ⟨A, c, r, rfl, by rw [HRR.out]; exact HPW.out, by rw [HRR.out]; exact HQ.out, hc, hc2, below_drewN HBB.out d⟩
     ·have hin := ints_dec (b := false) HRO.out HPW.out (by
       refine ⟨(fun h => by cases h), fun h => absurd (fun x hx => ?_) heq⟩
       have := h x hx
       omega)
      have HIN := Lib.hid hin; have HQ := Lib.hid (HNE.out heq)
      clear hin heq
      go_wp2_with fail
      refine HIN.out.mono ?_
      rintro e w2 ⟨rfl, d, rfl⟩
      go_wp2_with fail
      go_roundg (n + 1 - c1)
      case measure => have := HGK.out; have := HQ.out; have := HLE.out; omega
      case rel => exact ⟨r + 1, some ⟨g0, 0, none⟩, n, rfl, Nat.le_refl _, by omega, Lib.hid (by rw [HC1.out]), Lib.hid (by rw [HRR'.out]; exact HRO.out), Lib.hid (below_drewN HBB.out d)⟩
end Go.Proofs.Ytdcokkgdahbinaa
