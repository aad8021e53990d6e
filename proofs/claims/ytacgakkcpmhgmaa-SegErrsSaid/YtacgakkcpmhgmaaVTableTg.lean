/- The reference's reader: num, count. The reference's reader by what is left: num, count. The reference's reader: lists by what is left; nums. The reference's reader: nums. The reference's reader: rows. The reference's reader: vecs. The reference's lettered. The reference's steps. -/
import Derived.Test.YtacgakkcpmhgmaaVTableYi
import Derived.Test.YtacgakkcpmhgmaaVTableK
import Derived.Test.YtacgakkcpmhgmaaVTableB
set_option linter.unusedVariables false
set_option linter.unusedSimpArgs false
set_option maxRecDepth 100000
set_option maxHeartbeats 4000000
namespace Go.Proofs.Ytacgakkcpmhgmaa
open Go Go.RowKit Go.Proofs
theorem BytesR.far2 {w w' : World} {v : Value} {n : Nat} {l : List Int} {b : Nat} {t : TypeId} {A : Option Addr} {m cap : Nat} {br : Bool} (h : BytesR w v n l) (hf : Fr (fun q => q = b) w w') (hx : Blk w b t #[.slice A m cap, .bool br]) : BytesR w' v n l :=
 ⟨h.1.far hf hx (fun a _ j u hj i hi => by
  have hu : u = .int .u8 a := by
   match j, hj with
   | 0, hj => simpa [encB] using hj.symm
   | j + 1, hj => simp [encB] at hj
  subst hu
  match i, hi with
  | 0, hi => simp at hi
  | 1, hi => simp at hi
  | i + 2, hi => simp at hi), h.2⟩
section
variable {w w' : World} {b S : Nat} {A : Option Addr} {cap : Nat} {bs : List Int} {bad : Bool}
end
end Go.Proofs.Ytacgakkcpmhgmaa
namespace Go.Proofs.Ytacgakkcpmhgmaa
open Go Go.RowKit Go.Proofs
def manyR (rest : Option (List Int)) : Int × Option (List Int) :=
 if 0 <= (takeN rest).1 /\ (takeN rest).1 <= 100000 /\ (takeN rest).1 <= (leftN (takeN rest).2 : Int) then takeN rest else (0, none)
end Go.Proofs.Ytacgakkcpmhgmaa
namespace Go.Proofs.Ytacgakkcpmhgmaa
open Go Go.RowKit Go.Proofs
section
variable {α : Type} {rd : List Int -> Option (α × List Int)} {rest rest1 r r2 : Option (List Int)} {k i : Nat} {l : List α} {x : α}
def RdOut (rd : List Int -> Option (α × List Int)) (rest : Option (List Int)) (x : α) (r : Option (List Int)) : Prop :=
 (rest = none -> r = none) /\ ∀ L, rest = some L -> (∀ y L', rd L = some (y, L') -> x = y /\ r = some L') /\ (rd L = none -> r = none)
def RdInv (rd : List Int -> Option (α × List Int)) (k : Nat) (rest1 : Option (List Int)) (i : Nat) (l : List α) (r : Option (List Int)) : Prop :=
 (rest1 = none -> r = none) /\ (r = none -> ∀ L, rest1 = some L -> rdK rd k L = none) /\ ∀ L', r = some L' -> l.length = i /\ ∃ L, rest1 = some L /\ rdK rd k L = (rdK rd (k - i) L').map (fun p => (l ++ p.1, p.2))
theorem RdInv.start (k : Nat) (rest1 : Option (List Int)) : RdInv rd k rest1 0 [] rest1 :=
 ⟨fun h => h, (fun h L e => by rw [h] at e; cases e), fun L' e => ⟨rfl, L', e, by
  show rdK rd k L' = (rdK rd k L').map _
  cases rdK rd k L' with
  | none => rfl
  | some p => rfl⟩⟩
theorem RdInv.step {L1 : List Int} (h : RdInv rd k rest1 i l (some L1)) (hi : i < k) (hx : RdOut rd (some L1) x r2) : RdInv rd k rest1 (i + 1) (l ++ [x]) r2 := by
 obtain ⟨h0, h1, h2⟩ := h
 obtain ⟨hl, L, hL, hk⟩ := h2 L1 rfl
 have hr := hx.2 L1 rfl
 rw [show k - i = (k - (i + 1)) + 1 by omega] at hk
 cases hrd : rd L1 with
 | none =>
   have e2 := hr.2 hrd
   subst e2
   refine ⟨fun _ => rfl, fun _ L9 e9 => ?_, fun L' e => by cases e⟩
   rw [hL] at e9
   cases e9
   rw [hk]
   simp only [rdK, hrd, Option.map_none]
 | some p =>
   obtain ⟨y, L2⟩ := p
   obtain ⟨rfl, e2⟩ := hr.1 y L2 hrd
   subst e2
   refine ⟨(fun e => by have := h0 e; cases this), (fun e => by cases e), fun L' e => ?_⟩
   cases e
   refine ⟨by rw [List.length_append, hl]; rfl, L, hL, ?_⟩
   rw [hk]
   simp only [rdK, hrd]
   cases rdK rd (k - (i + 1)) L2 with
   | none => rfl
   | some q => simp
theorem rdOut_of (hk : rest ≠ none -> (k : Int) = (manyR rest).1) (h : RdInv rd k (manyR rest).2 i l r) (he : i = k \/ r = none) : RdOut (rdC (some 100000) rd) rest l r := by
 obtain ⟨h0, h1, h2⟩ := h
 refine ⟨fun e => h0 (by rw [e]; rfl), fun L e => ?_⟩
 have hk1 := hk (by rw [e]; exact fun h => by cases h)
 subst e
 cases L with
 | nil => exact ⟨(fun y L' e => by cases e), fun _ => h0 rfl⟩
 | cons n L =>
   by_cases hc : 0 <= n /\ n <= 100000 /\ n <= (L.length : Int)
   ·have em : manyR (some (n :: L)) = (n, some L) := by unfold manyR; exact if_pos hc
    rw [em] at hk1 h0 h1 h2
    have er : rdC (some 100000) rd (n :: L) = rdK rd k L := by
     show (if _ then _ else _) = _
     rw [if_pos ⟨hc.1, hc.2.2, fun m hm => by cases hm; exact hc.2.1⟩, show n.toNat = k by have : (k : Int) = n := hk1; omega]
    rw [er]
    cases r with
    | none => rw [h1 rfl L rfl]; exact ⟨(fun y L' e => by cases e), fun _ => rfl⟩
    | some L' =>
      obtain ⟨hl, L9, e9, e⟩ := h2 L' rfl
      cases e9
      have hik : i = k := by
       rcases he with h | h
       ·exact h
       ·cases h
      subst hik
      rw [Nat.sub_self] at e
      have e' : rdK rd i L = some (l, L') := by rw [e]; simp [rdK]
      rw [e']
      exact ⟨(fun y L2 e2 => by cases e2; exact ⟨rfl, rfl⟩), fun e2 => by cases e2⟩
   ·have em : manyR (some (n :: L)) = (0, none) := by unfold manyR; exact if_neg hc
    rw [em] at h0
    have er : rdC (some 100000) rd (n :: L) = none := if_neg (fun q => hc ⟨q.1, q.2.2 _ rfl, q.2.1⟩)
    rw [er]
    exact ⟨(fun y L' e => by cases e), fun _ => h0 rfl⟩
end
end Go.Proofs.Ytacgakkcpmhgmaa
namespace Go.Proofs.Ytacgakkcpmhgmaa
open Go Go.RowKit Go.Proofs
theorem rdOut_num {rest : Option (List Int)} {x : Int} (h : rest ≠ none -> x = (takeN rest).1) : RdOut rdOne rest x (takeN rest).2 := by
 refine ⟨fun e => by rw [e]; rfl, fun L e => ?_⟩
 have h1 := h (by rw [e]; exact fun h => by cases h)
 subst e
 cases L with
 | nil => exact ⟨(fun y L' e => by cases e), fun _ => rfl⟩
 | cons a L => exact ⟨(fun y L' e => by cases e; exact ⟨h1, rfl⟩), fun e => by cases e⟩
end Go.Proofs.Ytacgakkcpmhgmaa
namespace Go.Proofs.Ytacgakkcpmhgmaa
open Go Go.RowKit Go.Proofs
def xssI (T : List (List Int)) : List (Nat × List Value) := T.map fun l => (l.length, l.map (Value.int .i64))
theorem xssI_snoc (T : List (List Int)) (l : List Int) : xssI (T ++ [l]) = xssI T ++ [(l.length, l.map (Value.int .i64))] := by simp [xssI]
end Go.Proofs.Ytacgakkcpmhgmaa
namespace Go.Proofs.Ytacgakkcpmhgmaa
open Go Go.RowKit Go.Proofs
def takeK : Nat -> Option (List Int) -> Option (List Int)
 | 0, r => r
 | j + 1, r => (takeN (takeK j r)).2
def VecAt3 (L : List Int) (j : Nat) (x y z : Int) (r : Option (List Int)) : Prop :=
 r = takeK j (some L) /\ (0 < j -> takeK 0 (some L) ≠ none -> x = (takeN (takeK 0 (some L))).1) /\ (1 < j -> takeK 1 (some L) ≠ none -> y = (takeN (takeK 1 (some L))).1) /\ (2 < j -> takeK 2 (some L) ≠ none -> z = (takeN (takeK 2 (some L))).1)
theorem VecAt3.step {L : List Int} {j : Nat} {x y z q : Int} {r : Option (List Int)} (h : VecAt3 L j x y z r) (hj : j < 3) (hq : r ≠ none -> q = (takeN r).1) :
  VecAt3 L (j + 1) (if j = 0 then q else x) (if j = 1 then q else y) (if j = 2 then q else z) (takeN r).2 := by
  obtain ⟨rfl, h1, h2, h3⟩ := h
  rcases (show j = 0 \/ j = 1 \/ j = 2 by omega) with rfl | rfl | rfl
  ·exact ⟨rfl, fun _ => hq, fun e => absurd e (by omega), fun e => absurd e (by omega)⟩
  ·exact ⟨rfl, fun _ => h1 (by omega), fun _ => hq, fun e => absurd e (by omega)⟩
  ·exact ⟨rfl, fun _ => h1 (by omega), fun _ => h2 (by omega), fun _ => hq⟩
theorem VecAt3.out {L : List Int} {x y z : Int} {r : Option (List Int)} (h : VecAt3 L 3 x y z r) : RdOut rdVec (some L) (x, y, z) r := by
 obtain ⟨rfl, h1, h2, h3⟩ := h
 refine ⟨fun e => (by cases e), fun L9 e => ?_⟩
 cases e
 match L with
 | [] => exact ⟨(fun y L' e => by cases e), fun _ => rfl⟩
 | [a] => exact ⟨(fun y L' e => by cases e), fun _ => rfl⟩
 | [a, b] => exact ⟨(fun y L' e => by cases e), fun _ => rfl⟩
 | a :: b :: c :: t =>
   have e1 := h1 (by omega) (by simp [takeK]); have e2 := h2 (by omega) (by simp [takeK, takeN]); have e3 := h3 (by omega) (by simp [takeK, takeN])
   simp only [takeK, takeN] at e1 e2 e3
   subst e1 e2 e3
   exact ⟨(fun y L' e => by cases e; exact ⟨rfl, rfl⟩), fun e => by cases e⟩
end Go.Proofs.Ytacgakkcpmhgmaa
namespace Go.Proofs.Ytacgakkcpmhgmaa
open Go Go.RowKit Go.Proofs
def LetO (l : List Int) (w : World) (e : Ending) (w' : World) : Prop := ∃ (k : Int) (b : Bool), e = .returned (.tuple #[.int .i64 k, .bool b]) /\ (b = true ↔ LetteredI l /\ 0 < cntL l) /\ (b = true -> k = (cntL l : Int)) /\ w' = w
theorem rlettered_any {w : World} {v : Value} {n : Nat} {l : List Int} (h : ReadsI w v n l) (hn : n <= 9223372036854775806) :
  Calls Try.prog 51 #[v] w fun e w' => LetO l w e w' := by
  obtain ⟨A, cap, rfl, l1, l2, l3⟩ := h.form
  have HH := Lib.hid h
  have HL : Hid (l.length = n) := Lib.hid l3
  clear h l3
  go_enter Try.func51, Try.ntmps51
  go_wp2_with fail
  go_loopw [4, 5] (fun v4 vi wr => ∃ i : Nat, vi = .int .i64 (i : Int) /\ i <= n /\ v4 = .int .i64 (cntL (l.take i) : Int) /\ Hid (∀ j, j < i -> 0 <= l.getD j 0 /\ l.getD j 0 <= (cntL (l.take j) : Int)) /\ Hid (wr = w)) (fun _ vi _ => n - (intOf vi).toNat)
  case atStart => exact ⟨0, rfl, Nat.zero_le _, rfl, Lib.hid (fun j hj => absurd hj (Nat.not_lt_zero j)), Lib.hid rfl⟩
  case round =>
   obtain ⟨i, rfl, hi, rfl, HJ, HW⟩ := hrel
   have i0 : (0 : Int) <= (i : Int) := Int.natCast_nonneg _
   have hcl := cntL_le (l.take i)
   rw [List.length_take] at hcl
   by_cases hlt : i < n
   ·have i1 : (i : Int) < (n : Int) := by omega
    have t1 : decide (i < n) = true := by simpa using hlt
    have t2 : decide (n <= i) = false := by simpa using hlt
    have hil : i < l.length := by rw [HL.out]; exact hlt
    obtain ⟨g, o, e, -, c⟩ := HH.out.at i hlt
    subst e
    rw [<- HW.out] at c
    have hs := cntL_take_succ hil
    obtain ⟨y, hy⟩ : ∃ y, l.getD i 0 = y := ⟨_, rfl⟩
    obtain ⟨q, hq⟩ : ∃ q, cntL (l.take i) = q := ⟨_, rfl⟩
    have HY := Lib.hid hy; have HQ := Lib.hid hq
    rw [hy] at c hs
    rw [hq] at hs hcl ⊢
    have HS := Lib.hid hs
    have q0 : (0 : Int) <= (q : Int) := Int.natCast_nonneg _
    have hq9 : q <= i := by omega
    clear hs hy hq hcl
    have hbad : ¬ (0 <= y /\ y <= (q : Int)) -> ¬ LetteredI l := fun hn hl => hn (by
     have := hl i hil
     rw [HY.out, HQ.out] at this
     exact this)
    have HBAD := Lib.hid hbad
    clear hbad
    rcases Int.lt_or_le y 0 with g1 | g1
    ·go_wp2_with fail
     refine bodyPost_ret (v := .tuple #[.int .i64 0, .bool false]) (by simp [results, Try.results51, go_sem]) rfl ?_
     unfold LetO
     exact ⟨_, false, rfl, ⟨(fun e => by cases e), fun e => absurd e.1 (HBAD.out (by omega))⟩, (fun e => by cases e), HW.out⟩
    ·have g1' : ¬ y < 0 := by omega
     rcases Int.lt_or_le (q : Int) y with g2 | g2
     ·go_wp2_with fail
      refine bodyPost_ret (v := .tuple #[.int .i64 0, .bool false]) (by simp [results, Try.results51, go_sem]) rfl ?_
      unfold LetO
      exact ⟨_, false, rfl, ⟨(fun e => by cases e), fun e => absurd e.1 (HBAD.out (by omega))⟩, (fun e => by cases e), HW.out⟩
     ·have g2' : ¬ (q : Int) < y := by omega
      have HJ1 : Hid (∀ j, j < i + 1 -> 0 <= l.getD j 0 /\ l.getD j 0 <= (cntL (l.take j) : Int)) := Lib.hid (fun j hj => by
       by_cases e : j = i
       ·rw [e, HY.out, HQ.out]; exact ⟨g1, g2⟩
       ·exact HJ.out j (by omega))
      by_cases hyq : y = (q : Int)
      ·have HS2 : Hid (cntL (l.take (i + 1)) = q + 1) := Lib.hid (by rw [HS.out, if_pos hyq])
       have W1 : IntKind.i64.wrap ((q : Int) + 1) = (q : Int) + 1 := IntWalk.i64_in _ (by omega)
       subst hyq
       go_wp2_with fail
       exact ⟨⟨i + 1, by go_num, by omega, by rw [HS2.out]; rfl, HJ1, HW⟩, by simp [intOf]; omega⟩
      ·have HS2 : Hid (cntL (l.take (i + 1)) = q) := Lib.hid (by rw [HS.out, if_neg hyq])
       have hyq2 : (y == (q : Int)) = false := by simpa using hyq
       go_wp2_with fail
       exact ⟨⟨i + 1, by go_num, by omega, by rw [HS2.out], HJ1, HW⟩, by simp [intOf]; omega⟩
   ·obtain rfl : n = i := by omega
    have hall : l.take n = l := List.take_of_length_le (by rw [HL.out]; exact Nat.le_refl _)
    rw [hall]
    have hlet : LetteredI l := fun j hj => HJ.out j (by rw [<- HL.out]; exact hj)
    have HLET := Lib.hid hlet
    obtain ⟨q, hq⟩ : ∃ q, cntL l = q := ⟨_, rfl⟩
    have HQ := Lib.hid hq
    rw [hq]
    have q0 : (0 : Int) <= (q : Int) := Int.natCast_nonneg _
    clear hall hlet hq hcl
    by_cases hz : 0 < q
    ·have hz1 : (0 : Int) < (q : Int) := by omega
     go_wp2_with fail
     refine bodyPost_ret (v := .tuple #[.int .i64 (q : Int), .bool true]) (by simp [results, Try.results51, go_sem]) rfl ?_
     unfold LetO
     exact ⟨_, true, rfl, ⟨fun _ => ⟨HLET.out, by rw [HQ.out]; exact hz⟩, fun _ => rfl⟩, (fun _ => by rw [HQ.out]), HW.out⟩
    ·have hz1 : ¬ (0 : Int) < (q : Int) := by omega
     go_wp2_with fail
     refine bodyPost_ret (v := .tuple #[.int .i64 (q : Int), .bool false]) (by simp [results, Try.results51, go_sem]) rfl ?_
     unfold LetO
     exact ⟨_, false, rfl, ⟨(fun e => by cases e), fun e => absurd e.2 (by rw [HQ.out]; exact hz)⟩, (fun e => by cases e), HW.out⟩
end Go.Proofs.Ytacgakkcpmhgmaa
namespace Go.Proofs.Ytacgakkcpmhgmaa
open Go Go.RowKit Go.Proofs
theorem lead_not {T : List (List Int)} {n i : Nat} (hi : i < T.length) (h : ¬ ((T.getD i []).length = n /\ ∀ x ∈ T.getD i [], 0 <= x /\ x < (T.length : Int))) : ¬ LeadI T n := fun hl => by
 have e : T.getD i [] = T[i] := by rw [List.getD_eq_getElem?_getD, List.getElem?_eq_getElem hi]; rfl
 exact h (by rw [e]; exact hl.2.2 _ (List.getElem_mem hi))
theorem lead_yes {T : List (List Int)} {n : Nat} (h1 : 1 <= T.length) (h2 : T.length <= 100000) (h : ∀ i, i < T.length -> (T.getD i []).length = n /\ ∀ j, j < n -> 0 <= (T.getD i []).getD j 0 /\ (T.getD i []).getD j 0 < (T.length : Int)) : LeadI T n := by
 refine ⟨h1, h2, fun r hr => ?_⟩
 obtain ⟨i, hi, rfl⟩ := List.getElem_of_mem hr
 have e : T.getD i [] = T[i] := by rw [List.getD_eq_getElem?_getD, List.getElem?_eq_getElem hi]; rfl
 have h3 := h i hi
 rw [e] at h3
 refine ⟨h3.1, fun x hx => ?_⟩
 obtain ⟨j, hj, rfl⟩ := List.getElem_of_mem hx
 have h4 := h3.2 j (by omega)
 rw [List.getD_eq_getElem?_getD, List.getElem?_eq_getElem hj] at h4
 exact h4
def StO (T : List (List Int)) (n : Nat) (w : World) (e : Ending) (w' : World) : Prop := ∃ b, e = .returned (.bool b) /\ (b = true ↔ LeadI T n) /\ w' = w
theorem rsteps_any {w : World} {v : Value} {T : List (List Int)} {n : Nat} (h : RowsI w v T) (hn : n <= 9223372036854775806) :
  Calls Try.prog 52 #[v, .int .i64 (n : Int)] w fun e w' => StO T n w e w' := by
  obtain ⟨A, cap, e, l1, l2⟩ := h.form
  subst e
  obtain ⟨N, hN⟩ : ∃ N, T.length = N := ⟨_, rfl⟩
  have HN := Lib.hid hN
  rw [hN] at h l1 ⊢
  have HH := Lib.hid h
  have N0 : (0 : Int) <= (N : Int) := Int.natCast_nonneg _
  have n0 : (0 : Int) <= (n : Int) := Int.natCast_nonneg _
  clear h hN
  go_enter Try.func52, Try.ntmps52
  by_cases hz : N < 1
  ·have z1 : (N : Int) < 1 := by omega
   go_wp2_with fail
   go_ret
   unfold StO
   exact ⟨false, rfl, ⟨(fun e => by cases e), fun e => absurd e (fun e => absurd e.1 (by rw [HN.out]; omega))⟩, rfl⟩
  ·have z1 : ¬ (N : Int) < 1 := by omega
   by_cases hb : 100000 < N
   ·have b1 : (100000 : Int) < (N : Int) := by omega
    go_wp2_with fail
    go_ret
    unfold StO
    exact ⟨false, rfl, ⟨(fun e => by cases e), fun e => absurd e (fun e => absurd e.2.1 (by rw [HN.out]; omega))⟩, rfl⟩
   ·have b1 : ¬ (100000 : Int) < (N : Int) := by omega
    go_wp2_with fail
    go_loopw [5] (fun vi wr => ∃ i : Nat, vi = .int .i64 (i : Int) /\ i <= N /\ Hid (∀ j, j < i -> (T.getD j []).length = n /\ ∀ q, q < n -> 0 <= (T.getD j []).getD q 0 /\ (T.getD j []).getD q 0 < (T.length : Int)) /\ Hid (wr = w)) (fun vi _ => N - (intOf vi).toNat)
    case atStart => exact ⟨0, rfl, Nat.zero_le _, Lib.hid (fun j hj => absurd hj (Nat.not_lt_zero j)), Lib.hid rfl⟩
    case round =>
     obtain ⟨i, rfl, hi, HJ, HW⟩ := hrel
     have i0 : (0 : Int) <= (i : Int) := Int.natCast_nonneg _
     by_cases hlt : i < N
     ·have i1 : (i : Int) < (N : Int) := by omega
      obtain ⟨g, o, A8, m8, c8, ea, hk8, hcA, hrA, hm8, hc8⟩ := HH.out.at_ (i := i) (by rw [HN.out]; exact hlt)
      subst ea
      rw [<- HW.out] at hcA hrA
      have HR := Lib.hid hrA; have HC := Lib.hid hcA; have HK8 := Lib.hid hk8
      by_cases hmn : m8 = n
      ·subst hmn
       have q1 : ((m8 : Int) != (m8 : Int)) = false := by simp
       clear hrA
       go_wp2_with fail
       clear hcA hk8
       have HV : Hid (wr = wr) := Lib.hid rfl
       obtain ⟨V0, hV0⟩ : ∃ V, wr = V := ⟨_, rfl⟩
       rw [hV0] at HR HC HW ⊢
       clear HV
       go_loopw [6] (fun vj wz => ∃ j : Nat, vj = .int .i64 (j : Int) /\ j <= m8 /\ Hid (∀ q, q < j -> 0 <= (T.getD i []).getD q 0 /\ (T.getD i []).getD q 0 < (T.length : Int)) /\ Hid (wz = V0)) (fun vj _ => m8 - (intOf vj).toNat)
       case atStart => exact ⟨0, rfl, Nat.zero_le _, Lib.hid (fun j hj => absurd hj (Nat.not_lt_zero j)), Lib.hid rfl⟩
       case round =>
        obtain ⟨j, rfl, hj, HJ2, HW2⟩ := hrel
        have j0 : (0 : Int) <= (j : Int) := Int.natCast_nonneg _
        have hcA := HC.out
        rw [<- HW2.out] at hcA
        by_cases hjl : j < m8
        ·have j1 : (j : Int) < (m8 : Int) := by omega
         obtain ⟨g2, o2, e2, -, c⟩ := HR.out.at j hjl
         subst e2
         rw [<- HW2.out] at c
         obtain ⟨y, hy⟩ : ∃ y, (T.getD i []).getD j 0 = y := ⟨_, rfl⟩
         have HY := Lib.hid hy
         rw [hy] at c
         clear hy
         have hbad : ¬ (0 <= y /\ y < (N : Int)) -> ¬ LeadI T m8 := fun hn => lead_not (i := i) (by rw [HN.out]; exact hlt) (fun hq => hn (by
          have hjt : j < (T.getD i []).length := by rw [<- HK8.out]; exact hjl
          have := hq.2 _ (List.getElem_mem hjt)
          rw [<- HY.out, <- HN.out, List.getD_eq_getElem?_getD, List.getElem?_eq_getElem hjt]
          exact this))
         have HBAD := Lib.hid hbad
         clear hbad
         rcases Int.lt_or_le y 0 with g1 | g1
         ·go_wp2_with fail
          go_ret
          unfold StO
          exact ⟨false, rfl, ⟨(fun e => by cases e), fun e => absurd e (HBAD.out (by omega))⟩, (by rw [HW2.out, HW.out])⟩
         ·have g1' : ¬ y < 0 := by omega
          rcases Int.lt_or_le y (N : Int) with g2 | g2
          ·have g2' : ¬ (N : Int) <= y := by omega
           go_wp2_with fail
           exact ⟨⟨j + 1, by go_num, by omega, Lib.hid (fun q hq => by
            by_cases e : q = j
            ·rw [e, HY.out, HN.out]; exact ⟨g1, g2⟩
            ·exact HJ2.out q (by omega)), HW2⟩, by simp [intOf]; omega⟩
          ·go_wp2_with fail
           go_ret
           unfold StO
           exact ⟨false, rfl, ⟨(fun e => by cases e), fun e => absurd e (HBAD.out (by omega))⟩, (by rw [HW2.out, HW.out])⟩
        ·obtain rfl : m8 = j := by omega
         go_wp2_with fail
         exact ⟨⟨i + 1, by go_num, by omega, Lib.hid (fun q hq => by
          by_cases e : q = i
          ·rw [e]; exact ⟨HK8.out.symm, HJ2.out⟩
          ·exact HJ.out q (by omega)), Lib.hid (by rw [HW2.out, HW.out])⟩, by simp [intOf]; omega⟩
      ·have hmn2 : ((m8 : Int) != (n : Int)) = true := by simp; omega
       have hmn3 : ¬ (m8 : Int) = (n : Int) := by omega
       clear hk8 hrA
       go_wp2_with fail
       go_ret
       unfold StO
       exact ⟨false, rfl, ⟨(fun e => by cases e), fun e => absurd e (lead_not (i := i) (by rw [HN.out]; exact hlt) (fun hq => hmn (by rw [HK8.out]; exact hq.1)))⟩, HW.out⟩
     ·obtain rfl : N = i := by omega
      go_wp2_with fail
      go_ret
      have hyes : LeadI T n := lead_yes (by rw [HN.out]; omega) (by rw [HN.out]; omega) (fun j hj => HJ.out j (by rw [<- HN.out]; exact hj))
      unfold StO
      exact ⟨true, rfl, ⟨fun _ => hyes, fun _ => rfl⟩, HW.out⟩
end Go.Proofs.Ytacgakkcpmhgmaa
