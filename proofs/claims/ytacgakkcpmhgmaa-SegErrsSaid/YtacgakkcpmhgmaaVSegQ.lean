/- Laws of chapter 13: within; what they share. -/
import Derived.Test.YtacgakkcpmhgmaaVSegM
import Derived.Test.YtacgakkcpmhgmaaVTableTb
import Derived.Test.YtacgakkcpmhgmaaVTableTa
import Derived.Test.YtacgakkcpmhgmaaVUtfF
import Derived.Test.YtacgakkcpmhgmaaVMiniMa
set_option linter.unusedVariables false
set_option linter.unusedSimpArgs false
namespace Go.Proofs.Ytacgakkcpmhgmaa
open Go Go.RowKit Go.Proofs
theorem swithin_any (x n : Int) (hn : 0 < n) (hn2 : n <= 1099511627776) (w : World) :
  Calls Try.prog 22 #[.int .i64 x, .int .i64 n] w fun e w' => e = .returned (.int .i64 (x % n)) /\ w = w' := by
  have h1 := Int.tmod_lt_of_pos x hn
  have h2 : -n < x.tmod n := by
   have := Int.tmod_lt_of_pos (-x) hn
   rw [Int.neg_tmod] at this
   omega
  have hE : x % n = if x.tmod n < 0 then x.tmod n + n else x.tmod n := by
   have h3 := Int.emod_eq_tmod (a := x) (b := n)
   have hd : (n.natAbs : Int) = n := Int.natAbs_of_nonneg (Int.le_of_lt hn)
   have h4 := Int.emod_nonneg x (Int.ne_of_gt hn)
   have h5 := Int.emod_lt_of_pos x hn
   have e1 := Int.emod_add_mul_ediv x n
   have e2 := Int.tmod_add_mul_tdiv x n
   split
   ·rename_i hlt
    have : (x % n - (x.tmod n + n)) = n * (x.tdiv n - x / n - 1) := by
     rw [Int.mul_sub, Int.mul_sub, Int.mul_one]; omega
    have hq : x.tdiv n - x / n - 1 = 0 := by
     apply Classical.byContradiction
     intro hne
     rcases Int.lt_or_gt_of_ne hne with h | h
     ·have : n * (x.tdiv n - x / n - 1) <= n * (-1) := Int.mul_le_mul_of_nonneg_left (by omega) (by omega)
      omega
     ·have : n * 1 <= n * (x.tdiv n - x / n - 1) := Int.mul_le_mul_of_nonneg_left (by omega) (by omega)
      omega
    rw [hq] at this
    omega
   ·rename_i hge
    have : (x % n - x.tmod n) = n * (x.tdiv n - x / n) := by
     rw [Int.mul_sub]; omega
    have hq : x.tdiv n - x / n = 0 := by
     apply Classical.byContradiction
     intro hne
     rcases Int.lt_or_gt_of_ne hne with h | h
     ·have : n * (x.tdiv n - x / n) <= n * (-1) := Int.mul_le_mul_of_nonneg_left (by omega) (by omega)
      omega
     ·have : n * 1 <= n * (x.tdiv n - x / n) := Int.mul_le_mul_of_nonneg_left (by omega) (by omega)
      omega
    rw [hq] at this
    omega
  have E := Lib.hid hE
  have hne : ¬ n = 0 := by omega
  clear hE
  go_enter Try.func22, Try.ntmps22
  by_cases hlt : x.tmod n < 0
  ·go_wp2_with fail
   go_ret
   exact ⟨by rw [E.out, if_pos hlt]; rfl, rfl⟩
  ·go_wp2_with fail
   go_ret
   exact ⟨by rw [E.out, if_neg (by omega)]; rfl, rfl⟩
theorem sgetD_at {α : Type} {d : α} {l : List α} {i : Nat} (h : i < l.length) : l[i]? = some (l.getD i d) := by
 rw [List.getD_eq_getElem?_getD, List.getElem?_eq_getElem h]; rfl
noncomputable def segT (t : Tab) (s : ByteArray) : List V3 := segL t (textI t (scs s.data.toList))
theorem segT_ok {t : Tab} {s : ByteArray} (h : RightT t) (hs : s.size <= 4000) : segR t s = (segT t s, 0) := segR_ok h hs
theorem segT_len (t : Tab) (s : ByteArray) : 1 <= (segT t s).length /\ (segT t s).length <= s.size + 1 := by
 unfold segT
 rw [segL_len, textI_len]
 have := scs_length_le s.data.toList
 have hsz : s.data.toList.length = s.size := rfl
 omega
theorem segT_in {t : Tab} {s : ByteArray} (h : RightT t) {i : Nat} (hi : i < (segT t s).length) : CostV ((segT t s).getD i (0, 0, 0)) := by
 unfold segT at hi ⊢
 rw [segL_len] at hi
 rw [segL_at t (by omega)]
 exact segV_cost h (textI_in h (fun x hx => (scs_in _ x hx).1)) i
theorem rowAt_in {l : List V3} {i : Nat} (h : i < l.length) : rowAt l (i : Int) = l.getD i (0, 0, 0) := by
 unfold rowAt
 rw [if_pos ⟨by omega, by omega⟩, Int.toNat_natCast]
theorem CurS.fr {w w' : World} {b b' cap : Nat} {A : Option Addr} {l : List V3} {at_ : Int} (h : CurS w b A cap l at_) (hb : Below w.heap.size w w') : CurS w' b A cap l at_ := h.below hb
theorem seek_below {w0 w w' : World} {b : Nat} (hb : Below w0.heap.size w0 w) (hl : w0.heap.size <= b) (hf : Fr (fun q => q = b) w w') : Below w0.heap.size w0 w' := hb.trans (hf.below hb.size (fun q hq e => by omega))
end Go.Proofs.Ytacgakkcpmhgmaa
