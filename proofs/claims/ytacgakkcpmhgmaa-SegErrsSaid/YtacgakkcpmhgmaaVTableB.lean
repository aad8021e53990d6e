/- Tables in memory. Contracts of table: within, fits, size, part.Count, Sum. Contracts of table: isNumbered, rises, alphabet.right. Contracts of table: alphabet.right, slices.Max, labels, areCosts. Contracts of table: states.lead, labels, areCosts. -/
import Derived.Test.YtacgakkcpmhgmaaVTableP
import Derived.Test.YtacgakkcpmhgmaaVMiniFa
import Derived.IntWalk
set_option linter.unusedVariables false
set_option linter.unusedSimpArgs false
set_option maxRecDepth 100000
set_option maxHeartbeats 4000000
namespace Go.Proofs.Ytacgakkcpmhgmaa
open Go Go.RowKit Go.Proofs
def RowsI (w : World) (v : Value) (T : List (List Int)) : Prop :=
 ∃ a cap, v = .slice a T.length cap /\ T.length <= cap /\ cap <= maxLen /\ (a = none -> cap = 0) /\ ∀ i, i < T.length -> ∃ b off u, a = some ⟨b, off, none⟩ /\ w.cell? ⟨b, off + i, none⟩ = some u /\ ReadsI w u (T.getD i []).length (T.getD i [])
section
variable {w w' : World} {v : Value} {T : List (List Int)}
theorem RowsI.same (h : RowsI w v T) (hk : ∀ b o x, w.cell? ⟨b, o, none⟩ = some x -> w'.cell? ⟨b, o, none⟩ = some x) : RowsI w' v T := by
 obtain ⟨a, cap, h1, h2, h3, h4, h5⟩ := h
 refine ⟨a, cap, h1, h2, h3, h4, fun i hi => ?_⟩
 obtain ⟨b, off, u, e1, e2, e3⟩ := h5 i hi
 exact ⟨b, off, u, e1, hk _ _ _ e2, e3.same hk⟩
theorem RowsI.below (h : RowsI w v T) (hb : Below w.heap.size w w') : RowsI w' v T := h.same fun b o x hx => bel_m hb hx
theorem RowsI.form (h : RowsI w v T) : ∃ a cap, v = .slice a T.length cap /\ T.length <= cap /\ cap <= 9223372036854775807 := by
 obtain ⟨a, cap, h1, h2, h3, _⟩ := h
 exact ⟨a, cap, h1, h2, by unfold maxLen at h3; exact h3⟩
theorem RowsI.at_ {a : Option Addr} {n cap : Nat} (h : RowsI w (.slice a n cap) T) {i : Nat} (hi : i < T.length) : ∃ b off A m c, a = some ⟨b, off, none⟩ /\ m = (T.getD i []).length /\ w.cell? ⟨b, off + i, none⟩ = some (.slice A m c) /\ ReadsI w (.slice A m c) m (T.getD i []) /\ m <= c /\ c <= 9223372036854775807 := by
 obtain ⟨a', cap', h1, h2, h3, h4, h5⟩ := h
 obtain ⟨b, off, u, e1, e2, e3⟩ := h5 i hi
 obtain ⟨A, c, e4, l1, l2, -⟩ := e3.form
 subst e4
 simp only [Value.slice.injEq] at h1
 obtain ⟨rfl, -, rfl⟩ := h1
 exact ⟨b, off, A, _, c, e1, rfl, e2, e3, l1, l2⟩
theorem RowsI.nil (w : World) : RowsI w (.slice none 0 0) [] := ⟨none, 0, rfl, Nat.le_refl _, Nat.zero_le _, fun _ => rfl, fun i hi => by simp at hi⟩
theorem NextR.rowsI {N : List (List Nat)} (h : NextR w v N) : RowsI w v (N.map intsN) := by
 obtain ⟨a, cap, h1, h2, h3, h4, h5⟩ := h
 refine ⟨a, cap, by rw [List.length_map]; exact h1, by rw [List.length_map]; exact h2, h3, h4, fun i hi => ?_⟩
 rw [List.length_map] at hi
 obtain ⟨b, off, u, e1, e2, e3⟩ := h5 i hi
 refine ⟨b, off, u, e1, e2, ?_⟩
 have e : (N.map intsN).getD i [] = intsN (N.getD i []) := by simp [List.getD_eq_getElem?_getD, List.getElem?_eq_getElem hi]
 rw [e, show (intsN (N.getD i [])).length = (N.getD i []).length by simp [intsN]]
 exact e3
end
structure TabR (w : World) (vc vl vbn vbo vfn vfe : Value) (t : Tab) : Prop where
 c : ReadsI w vc t.cuts.length t.cuts
 l : ReadsI w vl t.letters.length t.letters
 bn : RowsI w vbn t.bn
 bo : ReadsI w vbo t.bo.length t.bo
 fn : RowsI w vfn t.fn
 fe : EmitR w vfe t.fe
def tabV (vc vl vbn vbo vfn vfe : Value) : Value := .agg #[vc, vl, vbn, vbo, vfn, vfe]
theorem TabR.below {w w' : World} {vc vl vbn vbo vfn vfe : Value} {t : Tab} (h : TabR w vc vl vbn vbo vfn vfe t) (hb : Below w.heap.size w w') : TabR w' vc vl vbn vbo vfn vfe t :=
 ⟨h.c.below hb, h.l.below hb, h.bn.below hb, h.bo.below hb, h.fn.below hb, h.fe.below hb⟩
end Go.Proofs.Ytacgakkcpmhgmaa
namespace Go.Proofs.Ytacgakkcpmhgmaa
open Go Go.RowKit Go.Proofs
theorem twithin_any {w : World} {v : Value} {n : Nat} {l : List Int} (lo up : Int) (h : ReadsI w v n l) :
  Calls Try.prog 75 #[.int .i64 lo, .int .i64 up, v] w fun e w' => e = .returned (.bool (inB lo up l)) /\ w' = w := by
  obtain ⟨A, cap, rfl, l1, l2, l3⟩ := h.form
  have HH := Lib.hid h
  have HL := Lib.hid l3
  clear h l3
  go_enter Try.func75, Try.ntmps75
  go_wp2_with fail
  go_loopw [11] (fun vi wr => ∃ i : Nat, vi = .int .i64 (i : Int) /\ i <= n /\ Hid (inB lo up (l.take i) = true) /\ Hid (wr = w)) (fun vi _ => n - (intOf vi).toNat)
  case atStart => exact ⟨0, rfl, Nat.zero_le _, Lib.hid rfl, Lib.hid rfl⟩
  case round =>
   obtain ⟨i, rfl, hi, HI, HW⟩ := hrel
   have i0 : (0 : Int) <= (i : Int) := Int.natCast_nonneg _
   by_cases hlt : i < n
   ·have i1 : (i : Int) < (n : Int) := by omega
    have t1 : decide (i < n) = true := by simpa using hlt
    have t2 : decide (n <= i) = false := by simpa using hlt
    have hil : i < l.length := by rw [HL.out]; exact hlt
    have hh := HH.out
    rw [<- HW.out] at hh
    obtain ⟨g, o, e, -, c⟩ := hh.at i hlt
    subst e
    have hs := inB_take_succ (lo := lo) (hi := up) hil
    have hbad := inB_of_bad (lo := lo) (hi := up) hil
    obtain ⟨y, hy⟩ : ∃ y, l.getD i 0 = y := ⟨_, rfl⟩
    rw [hy] at c hs hbad
    have HS := Lib.hid hs; have HB := Lib.hid hbad
    clear hh hs hbad hy
    by_cases h1 : y < lo
    ·have q1 : decide (y < lo) = true := by simpa using h1
     have HE := Lib.hid (HB.out (.inl h1))
     go_wp2_with fail
     go_ret
     exact ⟨by rw [HE.out]; rfl, HW.out⟩
    ·have q1 : decide (y < lo) = false := by simpa using h1
     by_cases h2 : up < y
     ·have q2 : decide (up < y) = true := by simpa using h2
      have HE := Lib.hid (HB.out (.inr h2))
      go_wp2_with fail
      go_ret
      exact ⟨by rw [HE.out]; rfl, HW.out⟩
     ·have q2 : decide (up < y) = false := by simpa using h2
      have HE : Hid (inB lo up (l.take (i + 1)) = true) := Lib.hid (by
       rw [HS.out, HI.out]
       simp
       omega)
      go_wp2_with fail
      exact ⟨⟨i + 1, by go_num, by omega, HE, HW⟩, by simp [intOf]; omega⟩
   ·obtain rfl : n = i := by omega
    have HE : Hid (inB lo up l = true) := Lib.hid (by
     have := HI.out
     rwa [List.take_of_length_le (by rw [HL.out]; exact Nat.le_refl _)] at this)
    go_wp2_with fail
    go_ret
    exact ⟨by rw [HE.out]; rfl, HW.out⟩
theorem fits_any {w : World} {v : Value} {n : Nat} {l : List Int} (h : ReadsI w v n l) :
  Calls Try.prog 70 #[v] w fun e w' => e = .returned (.bool (inB 1 100000 l)) /\ w' = w := by
  have HH := Lib.hid h
  clear h
  go_enter Try.func70, Try.ntmps70
  go_wp2_with fail
  refine (twithin_any 1 100000 HH.out).mono ?_
  rintro e w1 ⟨rfl, hw⟩
  subst hw
  go_wp2_with fail
  go_ret
  exact ⟨rfl, rfl⟩
theorem tsize_any (A : Option Addr) (n c : Nat) (w : World) :
  Calls Try.prog 74 #[.agg #[.slice A n c]] w fun e w' => e = .returned (.int .i64 (n : Int)) /\ Below w.heap.size w w' := by
  go_enter Try.func74, Try.ntmps74
  go_wp2_with fail
  go_ret
  exact ⟨rfl, (Below.refl _ _).alloc (Nat.le_refl _) _⟩
theorem count_any {w : World} {v : Value} {n : Nat} {l : List Int} (h : ReadsI w v n l) :
  Calls Try.prog 60 #[v] w fun e w' => e = .returned (.int .i64 (cntL l : Int)) /\ w' = w := by
  obtain ⟨A, cap, rfl, l1, l2, l3⟩ := h.form
  have HH := Lib.hid h
  have HL := Lib.hid l3
  clear h l3
  go_enter Try.func60, Try.ntmps60
  go_wp2_with fail
  go_loopw [3, 8] (fun v3 vi wr => ∃ i : Nat, vi = .int .i64 (i : Int) /\ i <= n /\ v3 = .int .i64 (cntL (l.take i) : Int) /\ Hid (wr = w)) (fun _ vi _ => n - (intOf vi).toNat)
  case atStart => exact ⟨0, rfl, Nat.zero_le _, rfl, Lib.hid rfl⟩
  case round =>
   obtain ⟨i, rfl, hi, rfl, HW⟩ := hrel
   have i0 : (0 : Int) <= (i : Int) := Int.natCast_nonneg _
   have hcl := cntL_le (l.take i)
   rw [List.length_take] at hcl
   by_cases hlt : i < n
   ·have i1 : (i : Int) < (n : Int) := by omega
    have t1 : decide (i < n) = true := by simpa using hlt
    have t2 : decide (n <= i) = false := by simpa using hlt
    have hil : i < l.length := by rw [HL.out]; exact hlt
    have hh := HH.out
    rw [<- HW.out] at hh
    obtain ⟨g, o, e, -, c⟩ := hh.at i hlt
    subst e
    have hs := cntL_take_succ hil
    obtain ⟨y, hy⟩ : ∃ y, l.getD i 0 = y := ⟨_, rfl⟩
    obtain ⟨q, hq⟩ : ∃ q, cntL (l.take i) = q := ⟨_, rfl⟩
    rw [hy] at c hs
    rw [hq] at hs hcl ⊢
    have HS := Lib.hid hs
    have q0 : (0 : Int) <= (q : Int) := Int.natCast_nonneg _
    have hq9 : q <= i := by omega
    have hwq : wrap64 ((q : Int) + 1) = (q : Int) + 1 := by unfold wrap64; omega
    clear hh hs hy hq hcl
    by_cases h1 : y = (q : Int)
    ·have b1 : (y == (q : Int)) = true := by simpa using h1
     have HE := Lib.hid h1
     rw [if_pos h1] at HS
     clear h1
     go_wp2_with fail
     exact ⟨⟨i + 1, by go_num, by omega, by rw [HS.out]; go_num, HW⟩, by simp [intOf]; omega⟩
    ·have b1 : (y == (q : Int)) = false := by simpa using h1
     rw [if_neg h1] at HS
     go_wp2_with fail
     exact ⟨⟨i + 1, by go_num, by omega, by rw [HS.out], HW⟩, by simp [intOf]; omega⟩
   ·obtain rfl : n = i := by omega
    have HE : Hid (cntL (l.take n) = cntL l) := Lib.hid (by rw [List.take_of_length_le (by rw [HL.out]; exact Nat.le_refl _)])
    go_wp2_with fail
    go_ret
    exact ⟨by rw [HE.out]; rfl, HW.out⟩
end Go.Proofs.Ytacgakkcpmhgmaa
namespace Go.Proofs.Ytacgakkcpmhgmaa
open Go Go.RowKit Go.Proofs
theorem readsI_one (w : World) (y : Int) : ReadsI (w.alloc (.cells #[.int .i64 y] 3)) (.slice (some ⟨w.heap.size, 0, none⟩) 1 1) 1 [y] :=
 readsI_blk (l := [y]) (Blk.new w _ _) (by simp)
theorem isNumbered_any {w : World} {vc v : Value} {n : Nat} {l : List Int} (h : ReadsI w v n l) (hn : n <= 9223372036854775806) :
  Calls Try.prog 72 #[.agg #[vc, v]] w fun e w' => ∃ b, e = .returned (.bool b) /\ (b = true ↔ LetteredI l) /\ Below w.heap.size w w' := by
  obtain ⟨A, cap, rfl, l1, l2, l3⟩ := h.form
  obtain ⟨W0, hW0⟩ : ∃ W, w.alloc (.cells #[vc, .slice A n cap] 92) = W := ⟨_, rfl⟩
  have hb0 : Below w.heap.size w W0 := by rw [<- hW0]; exact (Below.refl _ _).alloc (Nat.le_refl _) _
  have HH := Lib.hid (h.below hb0)
  have HL := Lib.hid l3
  have HW0 := Lib.hid hW0; have HB0 := Lib.hid hb0
  clear h l3 hW0 hb0
  go_enter Try.func72, Try.ntmps72
  go_wp2_with fail
  rw [HW0.out]
  go_loopw [3, 9] (fun v3 vi wr => ∃ i : Nat, vi = .int .i64 (i : Int) /\ i <= n /\ v3 = .int .i64 (cntL (l.take i) : Int) /\ Hid (∀ j, j < i -> 0 <= l.getD j 0 /\ l.getD j 0 <= (cntL (l.take j) : Int)) /\ Hid (Below W0.heap.size W0 wr)) (fun _ vi _ => n - (intOf vi).toNat)
  case atStart => exact ⟨0, rfl, Nat.zero_le _, rfl, Lib.hid (fun j hj => absurd hj (Nat.not_lt_zero j)), Lib.hid (Below.refl _ _)⟩
  case round =>
   obtain ⟨i, rfl, hi, rfl, HJ, HB⟩ := hrel
   have i0 : (0 : Int) <= (i : Int) := Int.natCast_nonneg _
   have hcl := cntL_le (l.take i)
   rw [List.length_take] at hcl
   by_cases hlt : i < n
   ·have i1 : (i : Int) < (n : Int) := by omega
    have t1 : decide (i < n) = true := by simpa using hlt
    have t2 : decide (n <= i) = false := by simpa using hlt
    have hil : i < l.length := by rw [HL.out]; exact hlt
    obtain ⟨g, o, e, -, c⟩ := (HH.out.below HB.out).at i hlt
    subst e
    have hs := cntL_take_succ hil
    obtain ⟨y, hy⟩ : ∃ y, l.getD i 0 = y := ⟨_, rfl⟩
    obtain ⟨q, hq⟩ : ∃ q, cntL (l.take i) = q := ⟨_, rfl⟩
    have HY := Lib.hid hy; have HQ := Lib.hid hq
    rw [hy] at c hs
    rw [hq] at hs hcl ⊢
    have HS := Lib.hid hs
    have q0 : (0 : Int) <= (q : Int) := Int.natCast_nonneg _
    have hq9 : q <= i := by omega
    have hin : inB 0 (q : Int) [y] = (decide (0 <= y) && decide (y <= (q : Int))) := by simp [inB]
    have HIN := Lib.hid hin
    clear hs hy hq hcl hin
    go_wp2_with fail
    refine (twithin_any 0 (q : Int) (readsI_one wr y)).mono ?_
    rintro e w1 ⟨rfl, hw⟩
    have hb1 : Below W0.heap.size W0 w1 := by rw [hw]; exact HB.out.alloc HB.out.size _
    have HB1 := Lib.hid hb1
    clear hw hb1 c
    rw [HIN.out]
    by_cases h1 : 0 <= y /\ y <= (q : Int)
    ·obtain ⟨h2, h3⟩ := h1
     have b1 : decide (0 <= y) = true := by simpa using h2
     have b2 : decide (y <= (q : Int)) = true := by simpa using h3
     have W1 : IntKind.i64.wrap (y + 1) = y + 1 := IntWalk.i64_in _ (by omega)
     have hmax : max (q : Int) (y + 1) = (cntL (l.take (i + 1)) : Int) := by
      rw [HS.out]
      by_cases h4 : y = (q : Int)
      ·rw [if_pos h4]; omega
      ·rw [if_neg h4]; omega
     have HJ1 : Hid (∀ j, j < i + 1 -> 0 <= l.getD j 0 /\ l.getD j 0 <= (cntL (l.take j) : Int)) := Lib.hid (fun j hj => by
      by_cases e : j = i
      ·rw [e, HY.out, HQ.out]; exact ⟨h2, h3⟩
      ·exact HJ.out j (by omega))
     have HM := Lib.hid hmax
     clear hmax
     rw [b1, b2]
     go_wp2_with fail
     refine ⟨⟨i + 1, by go_num, by omega, ?_, HJ1, HB1⟩, by simp [intOf]; omega⟩
     rw [<- HM.out]
     try rfl
     try (split <;> (congr 1; omega))
    ·have hbf : (decide (0 <= y) && decide (y <= (q : Int))) = false := by
      rw [Bool.eq_false_iff]; intro e; simp at e; exact h1 e
     rw [hbf]
     have HN : Hid (¬ LetteredI l) := Lib.hid (fun hl => h1 (by have := hl i hil; rwa [HY.out, HQ.out] at this))
     go_wp2_with fail
     go_ret
     exact ⟨false, rfl, ⟨(fun e => by cases e), fun e => absurd e HN.out⟩, HB0.out.trans (HB1.out.mono HB0.out.size)⟩
   ·obtain rfl : n = i := by omega
    go_wp2_with fail
    go_ret
    exact ⟨true, rfl, ⟨fun _ j hj => HJ.out j (by rw [<- HL.out]; exact hj), fun _ => rfl⟩, HB0.out.trans (HB.out.mono HB0.out.size)⟩
theorem rises_any {w : World} {vl v : Value} {n : Nat} {l : List Int} (h : ReadsI w v n l) (hn : 1 <= n) :
  Calls Try.prog 71 #[.agg #[v, vl]] w fun e w' => ∃ b, e = .returned (.bool b) /\ (b = true ↔ RiseR l) /\ Below w.heap.size w w' := by
  obtain ⟨A, cap, rfl, l1, l2, l3⟩ := h.form
  obtain ⟨W0, hW0⟩ : ∃ W, w.alloc (.cells #[.slice A n cap, vl] 92) = W := ⟨_, rfl⟩
  have hb0 : Below w.heap.size w W0 := by rw [<- hW0]; exact (Below.refl _ _).alloc (Nat.le_refl _) _
  have hx0 : Blk W0 w.heap.size 92 #[.slice A n cap, vl] := by rw [<- hW0]; exact Blk.new _ _ _
  obtain ⟨g0, o0, e0, -, c0⟩ := h.at 0 (by omega)
  subst e0
  have HH := Lib.hid (h.below hb0)
  have HL := Lib.hid l3
  have HW0 := Lib.hid hW0; have HB0 := Lib.hid hb0; have HX0 := Lib.hid hx0
  clear h l3 hW0 hb0 hx0 c0
  obtain ⟨m, hm⟩ : ∃ m, n = m + 1 := ⟨n - 1, by omega⟩
  subst hm
  have hm1 : (1 : Int) <= ((m + 1 : Nat) : Int) := by omega
  have hm3 : (0 : Int) < ((m + 1 : Nat) : Int) := by omega
  have hm2 : ((m + 1 : Nat) : Int) <= (cap : Int) := by omega
  by_cases h1 : cap = 1
  ·obtain rfl : m = 0 := by omega
   subst h1
   rw [Nat.zero_add] at HH HW0 HX0
   have HR : Hid (∀ i, i + 1 < l.length -> l.getD i 0 < l.getD (i + 1) 0) := Lib.hid (fun i hi => by rw [HL.out] at hi; omega)
   have b0 := HX0.out.cell 0
   simp only [List.getElem?_toArray, List.getElem?_cons_zero] at b0
   rw [<- HW0.out] at b0
   go_enter Try.func71, Try.ntmps71
   go_wp2_with fail
   rw [HW0.out]
   clear b0
   go_loopw [9] (fun vi wr => vi = .int .i64 0 /\ Hid (wr = W0)) (fun vi _ => 0)
   case atStart => exact ⟨rfl, Lib.hid rfl⟩
   case round =>
    obtain ⟨rfl, HWE⟩ := hrel
    have k0 := HX0.out
    rw [<- HWE.out] at k0
    have d0 := k0.cell 0
    simp only [List.getElem?_toArray, List.getElem?_cons_zero] at d0
    have hh := HH.out
    rw [<- HWE.out] at hh
    obtain ⟨g, o, e, -, cz⟩ := hh.at 0 (by omega)
    simp only [Option.some.injEq, Addr.mk.injEq, and_true] at e
    obtain ⟨rfl, rfl⟩ := e
    rw [Nat.add_zero] at cz
    obtain ⟨z, hz⟩ : ∃ z, l.getD 0 0 = z := ⟨_, rfl⟩
    rw [hz] at cz
    have HZ := Lib.hid hz
    have HHW := Lib.hid hh
    clear hh hz k0
    by_cases hz0 : z = 0
    ·have b1 : (z == 0) = true := by simpa using hz0
     have HZ0 := Lib.hid hz0
     clear hz0
     go_wp2_with fail
     refine (twithin_any 0 1114111 HHW.out).mono ?_
     rintro e w1 ⟨rfl, hw⟩
     subst hw
     go_wp2_with fail
     go_ret
     refine ⟨_, rfl, ⟨fun e => ⟨HR.out, by rw [HZ.out, HZ0.out], fun x hx => inB_iff.1 e x hx⟩, fun e => inB_iff.2 e.2.2⟩, ?_⟩
     rw [HWE.out]; exact HB0.out
    ·have b1 : (z == 0) = false := by simpa using hz0
     have HN := Lib.hid hz0
     go_wp2_with fail
     go_ret
     refine ⟨false, rfl, ⟨(fun e => by cases e), fun e => absurd (by rw [<- HZ.out]; exact e.2.1) HN.out⟩, ?_⟩
     rw [HWE.out]; exact HB0.out
  ·have b0 := HX0.out.cell 0
   simp only [List.getElem?_toArray, List.getElem?_cons_zero] at b0
   rw [<- HW0.out] at b0
   go_enter Try.func71, Try.ntmps71
   go_wp2_with fail
   rw [HW0.out]
   clear b0
   go_loopw [9] (fun vi wr => ∃ i : Nat, vi = .int .i64 (i : Int) /\ i <= m /\ Hid (∀ j, j < i -> l.getD j 0 < l.getD (j + 1) 0) /\ Hid (wr = W0)) (fun vi _ => m - (intOf vi).toNat)
   case atStart => exact ⟨0, rfl, Nat.zero_le _, Lib.hid (fun j hj => absurd hj (Nat.not_lt_zero j)), Lib.hid rfl⟩
   case round =>
    obtain ⟨i, rfl, hi, HJ, HWE⟩ := hrel
    have i0 : (0 : Int) <= (i : Int) := Int.natCast_nonneg _
    by_cases hlt : i < m
    ·have i1 : (i : Int) < (m : Int) := by omega
     have i2 : (i : Int) < ((m + 1 : Nat) : Int) := by omega
     have t1 : decide (i < m) = true := by simpa using hlt
     have t2 : decide (m <= i) = false := by simpa using hlt
     have t3 : decide (m + 1 <= i) = false := by simp; omega
     have k0 := HX0.out
     rw [<- HWE.out] at k0
     have d0 := k0.cell 0
     simp only [List.getElem?_toArray, List.getElem?_cons_zero] at d0
     have hh := HH.out
     rw [<- HWE.out] at hh
     obtain ⟨g, o, e, -, cx⟩ := hh.at i (by omega)
     simp only [Option.some.injEq, Addr.mk.injEq, and_true] at e
     obtain ⟨rfl, rfl⟩ := e
     obtain ⟨g, o, e, -, cy⟩ := hh.at (i + 1) (by omega)
     simp only [Option.some.injEq, Addr.mk.injEq, and_true] at e
     obtain ⟨rfl, rfl⟩ := e
     rw [show o0 + (i + 1) = o0 + 1 + i by omega] at cy
     obtain ⟨x, hx⟩ : ∃ x, l.getD i 0 = x := ⟨_, rfl⟩
     obtain ⟨y, hy⟩ : ∃ y, l.getD (i + 1) 0 = y := ⟨_, rfl⟩
     rw [hx] at cx
     rw [hy] at cy
     have HX := Lib.hid hx; have HY := Lib.hid hy
     clear hh hx hy k0
     by_cases h2 : y <= x
     ·have q1 : decide (y <= x) = true := by simpa using h2
      have HN : Hid (¬ RiseR l) := Lib.hid (fun e => by have := e.1 i (by rw [HL.out]; omega); rw [HX.out, HY.out] at this; omega)
      go_wp2_with fail
      go_ret
      refine ⟨false, rfl, ⟨(fun e => by cases e), fun e => absurd e HN.out⟩, ?_⟩
      rw [HWE.out]; exact HB0.out
     ·have q1 : decide (y <= x) = false := by simpa using h2
      have HJ1 : Hid (∀ j, j < i + 1 -> l.getD j 0 < l.getD (j + 1) 0) := Lib.hid (fun j hj => by
       by_cases e : j = i
       ·rw [e, HX.out, HY.out]; omega
       ·exact HJ.out j (by omega))
      go_wp2_with fail
      exact ⟨⟨i + 1, by go_num, by omega, HJ1, HWE⟩, by simp [intOf]; omega⟩
    ·obtain rfl : m = i := by omega
     have HR : Hid (∀ i, i + 1 < l.length -> l.getD i 0 < l.getD (i + 1) 0) := Lib.hid (fun i hi => HJ.out i (by rw [HL.out] at hi; omega))
     have k0 := HX0.out
     rw [<- HWE.out] at k0
     have d0 := k0.cell 0
     simp only [List.getElem?_toArray, List.getElem?_cons_zero] at d0
     have hh := HH.out
     rw [<- HWE.out] at hh
     obtain ⟨g, o, e, -, cz⟩ := hh.at 0 (by omega)
     simp only [Option.some.injEq, Addr.mk.injEq, and_true] at e
     obtain ⟨rfl, rfl⟩ := e
     rw [Nat.add_zero] at cz
     obtain ⟨z, hz⟩ : ∃ z, l.getD 0 0 = z := ⟨_, rfl⟩
     rw [hz] at cz
     have HZ := Lib.hid hz
     have HHW := Lib.hid hh
     clear hh hz k0
     by_cases hz0 : z = 0
     ·have b1 : (z == 0) = true := by simpa using hz0
      have HZ0 := Lib.hid hz0
      clear hz0
      go_wp2_with fail
      refine (twithin_any 0 1114111 HHW.out).mono ?_
      rintro e w1 ⟨rfl, hw⟩
      subst hw
      go_wp2_with fail
      go_ret
      refine ⟨_, rfl, ⟨fun e => ⟨HR.out, by rw [HZ.out, HZ0.out], fun x hx => inB_iff.1 e x hx⟩, fun e => inB_iff.2 e.2.2⟩, ?_⟩
      rw [HWE.out]; exact HB0.out
     ·have b1 : (z == 0) = false := by simpa using hz0
      have HN := Lib.hid hz0
      go_wp2_with fail
      go_ret
      refine ⟨false, rfl, ⟨(fun e => by cases e), fun e => absurd (by rw [<- HZ.out]; exact e.2.1) HN.out⟩, ?_⟩
      rw [HWE.out]; exact HB0.out
end Go.Proofs.Ytacgakkcpmhgmaa
namespace Go.Proofs.Ytacgakkcpmhgmaa
open Go Go.RowKit Go.Proofs
theorem alphaRight_any {w : World} {vc vl : Value} {nc nl : Nat} {cuts letters : List Int} (hc : ReadsI w vc nc cuts) (hl : ReadsI w vl nl letters) :
  Calls Try.prog 59 #[.agg #[vc, vl]] w fun e w' => ∃ b, e = .returned (.bool b) /\ (b = true ↔ AlphaR cuts letters) /\ Below w.heap.size w w' := by
  obtain ⟨A, cap, rfl, l1, l2, l3⟩ := hc.form
  obtain ⟨A', cap', rfl, l1', l2', l3'⟩ := hl.form
  obtain ⟨W0, hW0⟩ : ∃ W, w.alloc (.cells #[.slice A nc cap, .slice A' nl cap'] 92) = W := ⟨_, rfl⟩
  have hb0 : Below w.heap.size w W0 := by rw [<- hW0]; exact (Below.refl _ _).alloc (Nat.le_refl _) _
  have hx0 : Blk W0 w.heap.size 92 #[.slice A nc cap, .slice A' nl cap'] := by rw [<- hW0]; exact Blk.new _ _ _
  have HC := Lib.hid (hc.below hb0); have HL := Lib.hid (hl.below hb0)
  have HCL := Lib.hid l3; have HLL := Lib.hid l3'
  have HS0 : Hid (w.heap.size + 1 = W0.heap.size) := Lib.hid (by rw [<- hW0, World.size_alloc])
  have HW0 := Lib.hid hW0; have HB0 := Lib.hid hb0; have HX0 := Lib.hid hx0
  clear hc hl l3 l3' hW0 hb0 hx0
  have b0 := HX0.out.cell 0
  simp only [List.getElem?_toArray, List.getElem?_cons_zero] at b0
  rw [<- HW0.out] at b0
  go_enter Try.func59, Try.ntmps59
  go_wp2_with fail
  rw [HW0.out, HS0.out]
  refine (fits_any (readsI_one W0 (nc : Int))).mono ?_
  rintro e w1 ⟨rfl, hw⟩
  have hb1 : Below W0.heap.size W0 w1 := by rw [hw]; exact (Below.refl _ _).alloc (Nat.le_refl _) _
  have hx1 := Blk.below HX0.out hb1 HX0.out.lt
  have HC1 := Lib.hid (HC.out.below hb1); have HL1 := Lib.hid (HL.out.below hb1); have HX1 := Lib.hid hx1
  have HB1 := Lib.hid (HB0.out.trans (hb1.mono HB0.out.size))
  have hin : inB 1 100000 [(nc : Int)] = (decide (1 <= (nc : Int)) && decide ((nc : Int) <= 100000)) := by simp [inB]
  rw [hin]
  have d0 := hx1.cell 0; have d1 := hx1.cell 1
  simp only [List.getElem?_toArray, List.getElem?_cons_zero, List.getElem?_cons_succ] at d0 d1
  clear hw hb1 hx1 hin b0 HC HL HX0
  by_cases h1 : 1 <= nc /\ nc <= 100000
  ·obtain ⟨h2, h3⟩ := h1
   have b1 : (decide (1 <= (nc : Int)) && decide ((nc : Int) <= 100000)) = true := by simp; omega
   rw [b1]
   clear b1
   by_cases h4 : nl = nc
   ·subst h4
    have q1 : ((nl : Int) == (nl : Int)) = true := by simp
    go_wp2_with fail
    refine (rises_any HC1.out h2).mono ?_
    rintro e w2 ⟨b, rfl, hb, hbl⟩
    have hx2 := Blk.below HX1.out hbl HX1.out.lt
    have e0 := hx2.cell 0; have e1 := hx2.cell 1
    simp only [List.getElem?_toArray, List.getElem?_cons_zero, List.getElem?_cons_succ] at e0 e1
    have HL2 := Lib.hid (HL1.out.below hbl)
    have HB2 := Lib.hid (HB1.out.trans (hbl.mono HB1.out.size))
    have HBB := Lib.hid hb
    clear hb hbl hx2 d0 d1
    cases b with
    | false =>
      go_wp2_with fail
      go_ret
      refine ⟨false, rfl, ⟨(fun e => by cases e), fun e => absurd (HBB.out.2 e.2.2.1) (by simp)⟩, HB2.out⟩
    | true =>
      go_wp2_with fail
      refine (isNumbered_any HL2.out (by omega)).mono ?_
      rintro e w3 ⟨b2, rfl, hb, hbl⟩
      have HBC := Lib.hid hb
      have HB3 := Lib.hid (HB2.out.trans (hbl.mono HB2.out.size))
      clear hb hbl e0 e1
      go_wp2_with fail
      go_ret
      exact ⟨b2, rfl, ⟨fun e => ⟨by rw [HCL.out]; exact ⟨h2, h3⟩, by rw [HLL.out, HCL.out], HBB.out.1 (by simp), HBC.out.1 e⟩, fun e => HBC.out.2 e.2.2.2⟩, HB3.out⟩
   ·have q1 : ((nl : Int) == (nc : Int)) = false := by simp; omega
    have q2 : ¬ (nl : Int) = (nc : Int) := by omega
    go_wp2_with fail
    go_ret
    exact ⟨false, rfl, ⟨(fun e => by cases e), fun e => absurd (by rw [<- HLL.out, <- HCL.out]; exact e.2.1) h4⟩, HB1.out⟩
  ·have b1 : (decide (1 <= (nc : Int)) && decide ((nc : Int) <= 100000)) = false := by
    rw [Bool.eq_false_iff]; intro e; simp at e; omega
   rw [b1]
   clear b1
   go_wp2_with fail
   go_ret
   exact ⟨false, rfl, ⟨(fun e => by cases e), fun e => absurd (show 1 <= nc /\ nc <= 100000 by have := e.1; rwa [HCL.out] at this) h1⟩, HB1.out⟩
theorem max_any {w : World} {v : Value} {n : Nat} {l : List Int} (h : ReadsI w v n l) (hn : 1 <= n) (h0 : ∀ x ∈ l, 0 <= x) :
  Calls Try.prog 77 #[v] w fun e w' => e = .returned (.int .i64 (maxL l)) /\ w' = w := by
  obtain ⟨A, cap, rfl, l1, l2, l3⟩ := h.form
  have c0 := h.at 0 (by omega)
  obtain ⟨g0, o0, e0, -, c0⟩ := c0
  subst e0
  rw [Nat.add_zero] at c0
  have hm1 : l.getD 0 0 = maxL (l.take 1) := by
   have := maxL_take_succ (l := l) (i := 0) (by omega)
   rw [this]
   have hp := h0 _ (getD_mem (l := l) (i := 0) (by omega))
   have e : maxL (l.take 0) = 0 := rfl
   rw [e]
   omega
  rw [hm1] at c0
  have HH := Lib.hid h
  have HL := Lib.hid l3
  clear h l3 hm1
  have hn1 : ¬ (n : Int) < 1 := by omega
  have hn2 : decide (n < 1) = false := by simp; omega
  have hn3 : (0 : Int) < (n : Int) := by omega
  go_enter Try.func77, Try.ntmps77
  go_wp2_with fail
  clear c0
  go_loopw [3, 4] (fun v3 vi wr => ∃ i : Nat, vi = .int .i64 (i : Int) /\ 1 <= i /\ i <= n /\ v3 = .int .i64 (maxL (l.take i)) /\ Hid (wr = w)) (fun _ vi _ => n - (intOf vi).toNat)
  case atStart => exact ⟨1, rfl, Nat.le_refl _, hn, rfl, Lib.hid rfl⟩
  case round =>
   obtain ⟨i, rfl, hi1, hi, rfl, HW⟩ := hrel
   have i0 : (0 : Int) <= (i : Int) := Int.natCast_nonneg _
   by_cases hlt : i < n
   ·have i1 : (i : Int) < (n : Int) := by omega
    have t1 : decide (i < n) = true := by simpa using hlt
    have t2 : decide (n <= i) = false := by simpa using hlt
    have hh := HH.out
    rw [<- HW.out] at hh
    obtain ⟨g, o, e, -, c⟩ := hh.at i hlt
    simp only [Option.some.injEq, Addr.mk.injEq, and_true] at e
    obtain ⟨rfl, rfl⟩ := e
    have hs := maxL_take_succ (l := l) (i := i) (by rw [HL.out]; exact hlt)
    generalize l.getD i 0 = y at *
    generalize maxL (l.take i) = s at *
    have HS := Lib.hid hs
    clear hh hs
    rcases Int.lt_or_le s y with hsy | hsy
    ·have hm : max s y = y := by omega
     have hm' := Lib.hid hm
     have q1 : ¬ y <= s := by omega
     have q2 : decide (y <= s) = false := by simpa using q1
     have q3 : decide (s < y) = true := by simpa using hsy
     go_wp2_with fail
     refine ⟨⟨i + 1, by go_num, by omega, by omega, ?_, HW⟩, by simp [intOf]; omega⟩
     rw [HS.out]
     try rfl
     try rw [hm'.out]
    ·have hm : max s y = s := by omega
     have hm' := Lib.hid hm
     have q2 : decide (y <= s) = true := by simpa using hsy
     have q1 : ¬ s < y := by omega
     have q3 : decide (s < y) = false := by simpa using q1
     go_wp2_with fail
     refine ⟨⟨i + 1, by go_num, by omega, by omega, ?_, HW⟩, by simp [intOf]; omega⟩
     rw [HS.out]
     try rfl
     try rw [hm'.out]
   ·obtain rfl : n = i := by omega
    have HE : Hid (maxL (l.take n) = maxL l) := Lib.hid (by rw [List.take_of_length_le (by rw [HL.out]; exact Nat.le_refl _)])
    go_wp2_with fail
    go_ret
    exact ⟨by rw [HE.out]; rfl, HW.out⟩
end Go.Proofs.Ytacgakkcpmhgmaa
namespace Go.Proofs.Ytacgakkcpmhgmaa
open Go Go.RowKit Go.Proofs
theorem readsI_any3 {w : World} {b : Nat} {t : TypeId} {x y z : Int} (h : Blk w b t #[.int .i64 x, .int .i64 y, .int .i64 z]) : ReadsI w (.slice (some ⟨b, 0, none⟩) 3 3) 3 [x, y, z] := by
 refine ⟨rfl, some ⟨b, 0, none⟩, 3, rfl, Nat.le_refl _, by unfold maxLen; omega, (fun e => by cases e), fun i hi => ⟨b, 0, rfl, fun j hj => ?_⟩⟩
 rw [Nat.zero_add, h.cell]
 rcases (show j = 0 \/ j = 1 \/ j = 2 by omega) with rfl | rfl | rfl <;> rfl
theorem labels_any {w : World} {XA : Option Addr} {xn xc : Nat} {v : Value} {n : Nat} {l : List Int} (h : ReadsI w v n l) (hn : 1 <= n) (h0 : ∀ x ∈ l, 0 <= x /\ x <= 99999) :
  Calls Try.prog 63 #[.agg #[.slice XA xn xc, v]] w fun e w' => e = .returned (.int .i64 (maxL l + 1)) /\ Below w.heap.size w w' := by
  obtain ⟨A, cap, rfl, l1, l2, l3⟩ := h.form
  obtain ⟨W0, hW0⟩ : ∃ W, w.alloc (.cells #[.slice XA xn xc, .slice A n cap] 97) = W := ⟨_, rfl⟩
  have hb0 : Below w.heap.size w W0 := by rw [<- hW0]; exact (Below.refl _ _).alloc (Nat.le_refl _) _
  have hx0 : Blk W0 w.heap.size 97 #[.slice XA xn xc, .slice A n cap] := by rw [<- hW0]; exact Blk.new _ _ _
  have HC := Lib.hid (h.below hb0)
  have HW0 := Lib.hid hW0; have HB0 := Lib.hid hb0
  have b0 := hx0.cell 1
  simp only [List.getElem?_toArray, List.getElem?_cons_zero, List.getElem?_cons_succ] at b0
  rw [<- hW0] at b0
  have hm := maxL_le (l := l) (m := 99999) (by decide) (fun o ho => (h0 o ho).2)
  obtain ⟨m, hmm⟩ : ∃ m, maxL l = m := ⟨_, rfl⟩
  rw [hmm] at hm ⊢
  have HM := Lib.hid hmm
  have H0 := Lib.hid h0
  have W1 : IntKind.i64.wrap (m + 1) = m + 1 := IntWalk.i64_in _ (by omega)
  clear h l3 hW0 hb0 hx0 hmm h0
  go_enter Try.func63, Try.ntmps63
  go_wp2_with fail
  rw [HW0.out]
  refine (max_any HC.out hn (fun x hx => (H0.out x hx).1)).mono ?_
  rintro e w1 ⟨rfl, hw⟩
  subst hw
  rw [HM.out]
  go_wp2_with fail
  go_ret
  exact ⟨rfl, HB0.out⟩
theorem lead_any {w : World} {A : Option Addr} {cap : Nat} {T : List (List Int)} {n : Int} (h : RowsI w (.slice A T.length cap) T) :
  Calls Try.prog 73 #[.agg #[.slice A T.length cap], .int .i64 n] w fun e w' => ∃ b, e = .returned (.bool b) /\ (b = true ↔ (1 <= T.length /\ T.length <= 100000 /\ ∀ r ∈ T, (r.length : Int) = n /\ ∀ x ∈ r, 0 <= x /\ x < (T.length : Int))) /\ Below w.heap.size w w' := by
  obtain ⟨A2, cap2, e2, l1, l2⟩ := h.form
  simp only [Value.slice.injEq, true_and] at e2
  obtain ⟨rfl, rfl⟩ := e2
  obtain ⟨N, hN⟩ : ∃ N, T.length = N := ⟨_, rfl⟩
  rw [hN] at h l1 ⊢
  obtain ⟨W0, hW0⟩ : ∃ W, w.alloc (.cells #[.slice A N cap] 95) = W := ⟨_, rfl⟩
  have hb0 : Below w.heap.size w W0 := by rw [<- hW0]; exact (Below.refl _ _).alloc (Nat.le_refl _) _
  have hx0 : Blk W0 w.heap.size 95 #[.slice A N cap] := by rw [<- hW0]; exact Blk.new _ _ _
  have HH := Lib.hid (h.below hb0)
  have HN := Lib.hid hN
  have HW0 := Lib.hid hW0; have HB0 := Lib.hid hb0; have HX0 := Lib.hid hx0
  have b0 := hx0.cell 0
  simp only [List.getElem?_toArray, List.getElem?_cons_zero] at b0
  rw [<- hW0] at b0
  clear h hN hW0 hb0 hx0
  go_enter Try.func73, Try.ntmps73
  go_wp2_with fail
  rw [HW0.out]
  clear b0
  go_loopw [10] (fun vi wr => ∃ i : Nat, vi = .int .i64 (i : Int) /\ i <= N /\ Hid (∀ j, j < i -> ((T.getD j []).length : Int) = n /\ ∀ x ∈ T.getD j [], 0 <= x /\ x < (N : Int)) /\ Hid (Below W0.heap.size W0 wr)) (fun vi _ => N - (intOf vi).toNat)
  case atStart => exact ⟨0, rfl, Nat.zero_le _, Lib.hid (fun j hj => absurd hj (Nat.not_lt_zero j)), Lib.hid (Below.refl _ _)⟩
  case round =>
   obtain ⟨i, rfl, hi, HJ, HB⟩ := hrel
   have i0 : (0 : Int) <= (i : Int) := Int.natCast_nonneg _
   have hx := Blk.below HX0.out HB.out HX0.out.lt
   have b0 := hx.cell 0
   simp only [List.getElem?_toArray, List.getElem?_cons_zero] at b0
   by_cases hlt : i < N
   ·have i1 : (i : Int) < (N : Int) := by omega
    have t1 : decide (i < N) = true := by simpa using hlt
    have t2 : decide (N <= i) = false := by simpa using hlt
    have hil : i < T.length := by rw [HN.out]; exact hlt
    have hmem : T.getD i [] ∈ T := by rw [List.getD_eq_getElem?_getD, List.getElem?_eq_getElem hil]; simp
    obtain ⟨g, o, A3, m, c3, e, hm, cr, hr, l3, l4⟩ := (HH.out.below HB.out).at_ (i := i) hil
    subst e
    obtain ⟨r, er⟩ : ∃ r, T.getD i [] = r := ⟨_, rfl⟩
    rw [er] at hm hr hmem
    have HR := Lib.hid hr; have HM := Lib.hid hm; have ER := Lib.hid er; have HMEM := Lib.hid hmem
    clear hm hr er hmem hx
    by_cases hmn : (m : Int) = n
    ·subst hmn
     have q1 : ((m : Int) != (m : Int)) = false := by simp
     go_wp2_with fail
     refine (tsize_any _ N cap _).mono ?_
     rintro e w1 ⟨rfl, hbl⟩
     have HB1 := Lib.hid (HB.out.trans (hbl.mono HB.out.size))
     have HR1 := Lib.hid (HR.out.below hbl)
     have W1 : IntKind.i64.wrap ((N : Int) - 1) = (N : Int) - 1 := IntWalk.i64_in _ (by omega)
     clear hbl b0 cr
     go_wp2_with fail
     refine (twithin_any 0 ((N : Int) - 1) HR1.out).mono ?_
     rintro e w2 ⟨rfl, hw⟩
     subst hw
     have hib := inB_iff (lo := 0) (hi := (N : Int) - 1) (l := r)
     cases hb : inB 0 ((N : Int) - 1) r with
     | false =>
       have HF : Hid (¬ ∀ x ∈ r, 0 <= x /\ x <= (N : Int) - 1) := Lib.hid (fun e => by have := hib.2 e; rw [hb] at this; cases this)
       clear hib hb
       go_wp2_with fail
       go_ret
       refine ⟨false, rfl, ⟨(fun e => by cases e), fun e => absurd (fun x hx => ?_) HF.out⟩, HB0.out.trans (HB1.out.mono HB0.out.size)⟩
       have := (e.2.2 r HMEM.out).2 x hx
       omega
     | true =>
       have HT : Hid (∀ x ∈ r, 0 <= x /\ x <= (N : Int) - 1) := Lib.hid (hib.1 hb)
       clear hib hb
       have HJ1 : Hid (∀ j, j < i + 1 -> ((T.getD j []).length : Int) = (m : Int) /\ ∀ x ∈ T.getD j [], 0 <= x /\ x < (N : Int)) := Lib.hid (fun j hj => by
        by_cases e : j = i
        ·rw [e, ER.out]
         exact ⟨by rw [HM.out], fun x hx => by have := HT.out x hx; omega⟩
        ·exact HJ.out j (by omega))
       go_wp2_with fail
       exact ⟨⟨i + 1, by go_num, by omega, HJ1, HB1⟩, by simp [intOf]; omega⟩
    ·have q1 : ((m : Int) != n) = true := by simp; exact hmn
     have HF := Lib.hid hmn
     go_wp2_with fail
     go_ret
     exact ⟨false, rfl, ⟨(fun e => by cases e), fun e => absurd (show (m : Int) = n by have := (e.2.2 r HMEM.out).1; rwa [<- HM.out] at this) HF.out⟩, HB0.out.trans (HB.out.mono HB0.out.size)⟩
   ·obtain rfl : N = i := by omega
    clear hx
    go_wp2_with fail
    refine (tsize_any _ N cap _).mono ?_
    rintro e w1 ⟨rfl, hbl⟩
    have HB1 := Lib.hid (HB.out.trans (hbl.mono HB.out.size))
    clear hbl b0
    go_wp2_with fail
    refine (fits_any (readsI_one w1 (N : Int))).mono ?_
    rintro e w2 ⟨rfl, hw⟩
    have hb2 : Below W0.heap.size W0 w2 := by rw [hw]; exact HB1.out.alloc HB1.out.size _
    have HB2 := Lib.hid hb2
    clear hw hb2
    go_wp2_with fail
    go_ret
    refine ⟨_, rfl, ⟨fun e => ?_, fun e => inB_iff.2 (fun x hx => ?_)⟩, HB0.out.trans (HB2.out.mono HB0.out.size)⟩
    ·have := inB_iff.1 e (N : Int) (by simp)
     refine ⟨by omega, by omega, fun r hr => ?_⟩
     obtain ⟨j, hj, rfl⟩ := List.getElem_of_mem hr
     have h9 := HJ.out j (by rw [<- HN.out]; exact hj)
     rw [List.getD_eq_getElem?_getD, List.getElem?_eq_getElem hj] at h9
     exact h9
    ·simp only [List.mem_singleton] at hx
     subst hx
     omega
theorem areCosts_any {w : World} {v : Value} {n : Nat} {l : List V3} (h : ReadsE encV 3 w v n l) :
  Calls Try.prog 76 #[v] w fun e w' => ∃ b, e = .returned (.bool b) /\ (b = true ↔ ∀ u ∈ l, CostV u) /\ Below w.heap.size w w' := by
  obtain ⟨A, cap, rfl, l1, l2, l3⟩ := h.form
  have HH := Lib.hid h
  have HL := Lib.hid l3
  clear h l3
  go_enter Try.func76, Try.ntmps76
  go_wp2_with fail
  go_loopw [7] (fun vi wr => ∃ i : Nat, vi = .int .i64 (i : Int) /\ i <= n /\ Hid (∀ j, j < i -> CostV (l.getD j (0, 0, 0))) /\ Hid (Below w.heap.size w wr)) (fun vi _ => n - (intOf vi).toNat)
  case atStart => exact ⟨0, rfl, Nat.zero_le _, Lib.hid (fun j hj => absurd hj (Nat.not_lt_zero j)), Lib.hid (Below.refl _ _)⟩
  case round =>
   obtain ⟨i, rfl, hi, HJ, HB⟩ := hrel
   have i0 : (0 : Int) <= (i : Int) := Int.natCast_nonneg _
   by_cases hlt : i < n
   ·have i1 : (i : Int) < (n : Int) := by omega
    have t1 : decide (i < n) = true := by simpa using hlt
    have t2 : decide (n <= i) = false := by simpa using hlt
    have hil : i < l.length := by rw [HL.out]; exact hlt
    obtain ⟨⟨x, y, z⟩, hu⟩ : ∃ u, l.getD i (0, 0, 0) = u := ⟨_, rfl⟩
    have hx : l[i]? = some (x, y, z) := by rw [<- hu, List.getD_eq_getElem?_getD, List.getElem?_eq_getElem hil]; rfl
    have hmem : (x, y, z) ∈ l := List.mem_of_getElem? hx
    obtain ⟨g, o, e, -, hc⟩ := (HH.out.below HB.out).at encV_len (by decide) i _ hx
    subst e
    have c0 := hc 0 (.int .i64 x) rfl; have c1 := hc 1 (.int .i64 y) rfl; have c2 := hc 2 (.int .i64 z) rfl
    rw [Nat.add_zero] at c0
    have HU := Lib.hid hu; have HMEM := Lib.hid hmem
    clear hc hx hu hmem
    go_wp2_with fail
    have hrd : ReadsI (wr.alloc (.cells #[.int .i64 x, .int .i64 y, .int .i64 z] 51)) (.slice (some ⟨wr.heap.size, 0, none⟩) 3 3) 3 [x, y, z] := readsI_any3 (Blk.new wr _ _)
    refine (twithin_any 0 1152921504606846976 hrd).mono ?_
    rintro e w1 ⟨rfl, hw⟩
    have hb1 : Below w.heap.size w w1 := by rw [hw]; exact HB.out.alloc HB.out.size _
    have HB1 := Lib.hid hb1
    have hib := inB_iff (lo := 0) (hi := 1152921504606846976) (l := [x, y, z])
    have hcost : (∀ q ∈ [x, y, z], 0 <= q /\ q <= 1152921504606846976) ↔ CostV (x, y, z) := by
     unfold CostV
     simp
    rw [hcost] at hib
    clear hw hb1 hrd c0 c1 c2 hcost
    cases hb : inB 0 1152921504606846976 [x, y, z] with
    | false =>
      have HF : Hid (¬ CostV (x, y, z)) := Lib.hid (fun e => by have := hib.2 e; rw [hb] at this; cases this)
      clear hib hb
      go_wp2_with fail
      go_ret
      exact ⟨false, rfl, ⟨(fun e => by cases e), fun e => absurd (e _ HMEM.out) HF.out⟩, HB1.out⟩
    | true =>
      have HT : Hid (CostV (x, y, z)) := Lib.hid (hib.1 hb)
      have HJ1 : Hid (∀ j, j < i + 1 -> CostV (l.getD j (0, 0, 0))) := Lib.hid (fun j hj => by
       by_cases e : j = i
       ·rw [e, HU.out]; exact HT.out
       ·exact HJ.out j (by omega))
      clear hib hb
      go_wp2_with fail
      exact ⟨⟨i + 1, by go_num, by omega, HJ1, HB1⟩, by simp [intOf]; omega⟩
   ·obtain rfl : n = i := by omega
    go_wp2_with fail
    go_ret
    refine ⟨true, rfl, ⟨fun _ u hu => ?_, fun _ => rfl⟩, HB.out⟩
    obtain ⟨j, hj, rfl⟩ := List.getElem_of_mem hu
    have h9 := HJ.out j (by rw [<- HL.out]; exact hj)
    rw [List.getD_eq_getElem?_getD, List.getElem?_eq_getElem hj] at h9
    exact h9
end Go.Proofs.Ytacgakkcpmhgmaa
