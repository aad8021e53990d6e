/- The law text's machines, plain. whole: of a machine. -/
import Derived.Test.YtdcokkgdahbinaaVMiniLa
import Derived.Test.YtdcokkgdahbinaaVMiniLc
set_option linter.unusedVariables false
set_option linter.unusedSimpArgs false
set_option maxRecDepth 100000
set_option maxHeartbeats 8000000
namespace Go.Proofs.Ytdcokkgdahbinaa
def lawM (ns : List Int) (i : Nat) : Nat := if i < ns.length then (ns.getD i 0 % 1099511627776).toNat else i * 7
def lawT (ns : List Int) (k n : Nat) : List (List Nat) := (List.range k).map fun i => (List.range n).map fun j => lawM ns i / k ^ j % k
def lawO (ns : List Int) (k n : Nat) : List Nat := (List.range k).map fun i => lawM ns i / k ^ n % 3
theorem lawT_len (ns : List Int) (k n : Nat) : (lawT ns k n).length = k := by simp [lawT]
theorem lawO_len (ns : List Int) (k n : Nat) : (lawO ns k n).length = k := by simp [lawO]
theorem lawT_at (ns : List Int) {k n i : Nat} (h : i < k) : (lawT ns k n).getD i [] = (List.range n).map fun j => lawM ns i / k ^ j % k := by simp [lawT, List.getD, h]
theorem law_rect (ns : List Int) {k n : Nat} (hk : 0 < k) : RectN (lawT ns k n) n := ⟨by rw [lawT_len]; exact hk, fun s hs => by
 rw [lawT_len] at hs
 rw [lawT_at ns hs]
 simp, fun s a hs ha => by
 rw [lawT_len] at hs ⊢
 unfold trN
 rw [lawT_at ns hs]
 have e : ((List.range n).map fun j => lawM ns s / k ^ j % k).getD a 0 = lawM ns s / k ^ a % k := by simp [List.getD, ha]
 rw [e]
 exact Nat.mod_lt _ hk⟩
theorem lawO_lt (ns : List Int) (k n i : Nat) : (lawO ns k n).getD i 0 <= 2 := by
 rcases Nat.lt_or_ge i k with h | h
 ·have e : (lawO ns k n).getD i 0 = lawM ns i / k ^ n % 3 := by simp [lawO, List.getD, h]
  rw [e]
  omega
 ·have e : (lawO ns k n).getD i 0 = 0 := by
   rw [List.getD_eq_getElem?_getD, List.getElem?_eq_none (by rw [lawO_len]; exact h)]
   rfl
  omega
theorem lawM_lt (ns : List Int) {i : Nat} (h : i <= 9) : lawM ns i < 1099511627776 := by
 unfold lawM
 split
 ·have h1 := Int.emod_lt_of_pos (ns.getD i 0) (show (0 : Int) < 1099511627776 by decide)
  have h2 := Int.emod_nonneg (ns.getD i 0) (show (1099511627776 : Int) ≠ 0 by decide)
  omega
 ·omega
end Go.Proofs.Ytdcokkgdahbinaa
namespace Go.Proofs.Ytdcokkgdahbinaa
open Go Go.RowKit Go.Proofs
theorem whole_any {w : World} {A : Option Addr} {n c k : Nat} {T : List (List Nat)} (h : NextR w (.slice A n c) T) (hl : T.length = n) (hT : RectN T k) (hn : n <= 1000) (hk : k <= 1000) :
  Calls Try.prog 24 #[.slice A n c, .int .i64 (n : Int), .int .i64 (k : Int)] w fun e w' => e = .returned (.bool true) /\ w = w' := by
  have hpos : 0 < n := by have := hT.pos; omega
  obtain ⟨A', c', e, hnc, hnc2⟩ := h.form
  rw [hl] at hnc
  simp only [Value.slice.injEq] at e
  obtain ⟨rfl, -, rfl⟩ := e
  have HR := Lib.hid h; have HT := Lib.hid hT; have HL := Lib.hid hl
  clear h hT hl
  have n0 : (0 : Int) < (n : Int) := by omega
  have tn : decide (0 < n) = true := by simpa using hpos
  have k0 : (0 : Int) <= (k : Int) := Int.natCast_nonneg _
  go_enter Try.func24, Try.ntmps24
  go_wp2_with fail
  go_loopw [7] (fun vi wr => ∃ i : Nat, vi = .int .i64 (i : Int) /\ i <= n /\ wr = w) (fun vi _ => n - (intOf vi).toNat)
  case atStart => exact ⟨0, rfl, Nat.zero_le _, by trivial⟩
  case round =>
   obtain ⟨i, rfl, hi, hw⟩ := hrel
   subst hw
   have i0 : (0 : Int) <= (i : Int) := Int.natCast_nonneg _
   by_cases hlt : i < n
   ·have i1 : (i : Int) < (n : Int) := by omega
    have ti : decide (i < n) = true := by simpa using hlt
    obtain ⟨g1, o1, A1, m1, c1, hA1, hm1, d1, r1, q3, q4⟩ := HR.out.at_ (i := i) (by rw [HL.out]; exact hlt)
    subst hA1
    have hm : m1 = k := by rw [hm1, HT.out.len i (by rw [HL.out]; exact hlt)]
    clear hm1
    subst hm
    have HRW := Lib.hid r1
    obtain ⟨W1, hW1⟩ : ∃ W1, W1 = wr := ⟨_, rfl⟩
    subst hW1
    clear r1
    go_wp2_with fail
    go_loopw [8] (fun vj wr => ∃ j : Nat, vj = .int .i64 (j : Int) /\ j <= m1 /\ wr = W1) (fun vj _ => m1 - (intOf vj).toNat)
    case atStart => exact ⟨0, rfl, Nat.zero_le _, by trivial⟩
    case round =>
     obtain ⟨j, rfl, hj, hw⟩ := hrel
     subst hw
     have j0 : (0 : Int) <= (j : Int) := Int.natCast_nonneg _
     by_cases hlj : j < m1
     ·have j1 : (j : Int) < (m1 : Int) := by omega
      have tj : decide (j < m1) = true := by simpa using hlj
      obtain ⟨g2, o2, hA2, -, e2⟩ := HRW.out.at j hlj
      subst hA2
      have hlt2 := HT.out.lt i j (by rw [HL.out]; exact hlt) hlj
      have ce : (intsN (T.getD i [])).getD j 0 = (trN T i j : Int) := intsN_at j
      rw [ce] at e2
      generalize trN T i j = z at *
      have z0 : (0 : Int) <= (z : Int) := Int.natCast_nonneg _
      have z1 : (z : Int) < (n : Int) := by rw [HL.out] at hlt2; omega
      have z2 : ¬ (z : Int) < 0 := by omega
      have z3 : ¬ (n : Int) <= (z : Int) := by omega
      have z4 : ¬ n <= z := by omega
      have z5 : decide (n <= z) = false := by simpa using z4
      clear ce hlt2
      go_wp2_with fail
      exact ⟨⟨j + 1, by go_num, by omega, by trivial⟩, by simp [intOf]; omega⟩
     ·obtain rfl : j = m1 := by omega
      go_wp2_with fail
      exact ⟨⟨i + 1, by go_num, by omega, by trivial⟩, by simp [intOf]; omega⟩
   ·obtain rfl : i = n := by omega
    go_wp2_with fail
    go_ret
    exact ⟨rfl, by trivial⟩
end Go.Proofs.Ytdcokkgdahbinaa
