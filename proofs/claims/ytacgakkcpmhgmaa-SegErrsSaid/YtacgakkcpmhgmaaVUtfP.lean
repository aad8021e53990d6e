/- Plain mathematics of UTF-8, of no program: what the first scalar of a row of bytes is and how many bytes it has. Contracts of the small functions over single numbers and bytes: Scalar (the project's and the document's own), size, second, behind, has, within. Contracts of utf's lead, behind, has: what may follow a first byte. Contract of utf's front: how many bytes a row begins with that are a front of a scalar. -/
import Derived.Lib.RuneBytes
import Derived.Laws.RangeAny
import Derived.Test.YtacgakkcpmhgmaaRows
import Derived.WalkKit
import Derived.WalkSpells
import Derived.Lib.Hide
import Derived.LoopTactic
import Derived.OpenShut
import Derived.Deep.QuietTactic
import Derived.BigQuiet
import Derived.Outline
import Derived.RegionTactic
import Derived.ChangeAlike
set_option linter.unusedVariables false
set_option linter.unusedSimpArgs false
set_option maxHeartbeats 4000000
namespace Go.Proofs.Ytacgakkcpmhgmaa
def bt (l : List UInt8) (i : Nat) : Int := ((l.getD i 0).toNat : Int)
theorem bt_lt (l : List UInt8) (i : Nat) : 0 <= bt l i /\ bt l i < 256 := by
 have := (l.getD i 0).toNat_lt
 unfold bt; omega
theorem bt_drop (l : List UInt8) (k i : Nat) : bt (l.drop k) i = bt l (k + i) := by
 unfold bt; simp [List.getD]
def szOf (c : Int) : Nat := if c < 128 then 1 else if 194 <= c /\ c <= 223 then 2 else if 224 <= c /\ c <= 239 then 3 else if 240 <= c /\ c <= 244 then 4 else 0
def loOf (c : Int) : Int := if c = 224 then 160 else if c = 240 then 144 else 128
def hiOf (c : Int) : Int := if c = 237 then 159 else if c = 244 then 143 else 191
def sec (l : List UInt8) : Prop := 1 < l.length /\ loOf (bt l 0) <= bt l 1 /\ bt l 1 <= hiOf (bt l 0)
def con (l : List UInt8) (i : Nat) : Prop := i < l.length /\ 128 <= bt l i /\ bt l i <= 191
instance (l : List UInt8) : Decidable (sec l) := by unfold sec; infer_instance
instance (l : List UInt8) (i : Nat) : Decidable (con l i) := by unfold con; infer_instance
def nx (l : List UInt8) : Int × Nat :=
 if szOf (bt l 0) = 0 then (65533, 1)
 else if szOf (bt l 0) = 1 then (bt l 0, 1)
 else if ¬ sec l then (65533, 1)
 else if szOf (bt l 0) = 2 then (bt l 0 % 32 * 64 + bt l 1 % 64, 2)
 else if ¬ con l 2 then (65533, 2)
 else if szOf (bt l 0) = 3 then ((bt l 0 % 16 * 64 + bt l 1 % 64) * 64 + bt l 2 % 64, 3)
 else if ¬ con l 3 then (65533, 3)
 else (((bt l 0 % 8 * 64 + bt l 1 % 64) * 64 + bt l 2 % 64) * 64 + bt l 3 % 64, 4)
theorem szOf_cases (c : Int) : (szOf c = 1 /\ c < 128) \/ (szOf c = 2 /\ 194 <= c /\ c <= 223) \/ (szOf c = 3 /\ 224 <= c /\ c <= 239) \/ (szOf c = 4 /\ 240 <= c /\ c <= 244) \/ (szOf c = 0 /\ ((128 <= c /\ c < 194) \/ 244 < c)) := by
 unfold szOf
 (repeat' split) <;> omega
theorem nx_cases (l : List UInt8) :
  (bt l 0 < 128 /\ nx l = (bt l 0, 1)) \/
  (((128 <= bt l 0 /\ bt l 0 < 194) \/ 244 < bt l 0) /\ nx l = (65533, 1)) \/
  (194 <= bt l 0 /\ bt l 0 <= 244 /\ ¬ sec l /\ nx l = (65533, 1)) \/
  (194 <= bt l 0 /\ bt l 0 <= 223 /\ sec l /\ nx l = (bt l 0 % 32 * 64 + bt l 1 % 64, 2)) \/
  (224 <= bt l 0 /\ bt l 0 <= 244 /\ sec l /\ ¬ con l 2 /\ nx l = (65533, 2)) \/
  (224 <= bt l 0 /\ bt l 0 <= 239 /\ sec l /\ con l 2 /\ nx l = ((bt l 0 % 16 * 64 + bt l 1 % 64) * 64 + bt l 2 % 64, 3)) \/
  (240 <= bt l 0 /\ bt l 0 <= 244 /\ sec l /\ con l 2 /\ ¬ con l 3 /\ nx l = (65533, 3)) \/
  (240 <= bt l 0 /\ bt l 0 <= 244 /\ sec l /\ con l 2 /\ con l 3 /\ nx l = (((bt l 0 % 8 * 64 + bt l 1 % 64) * 64 + bt l 2 % 64) * 64 + bt l 3 % 64, 4)) := by
  unfold nx
  rcases szOf_cases (bt l 0) with ⟨e, h⟩ | ⟨e, h⟩ | ⟨e, h⟩ | ⟨e, h⟩ | ⟨e, h⟩ <;> rw [e]
  ·left; exact ⟨h, by simp⟩
  ·by_cases hs : sec l
   ·right; right; right; left; exact ⟨h.1, h.2, hs, by simp [hs]⟩
   ·right; right; left; exact ⟨by omega, by omega, hs, by simp [hs]⟩
  ·by_cases hs : sec l
   ·by_cases h2 : con l 2
    ·right; right; right; right; right; left; exact ⟨h.1, h.2, hs, h2, by simp [hs, h2]⟩
    ·right; right; right; right; left; exact ⟨by omega, by omega, hs, h2, by simp [hs, h2]⟩
   ·right; right; left; exact ⟨by omega, by omega, hs, by simp [hs]⟩
  ·by_cases hs : sec l
   ·by_cases h2 : con l 2
    ·by_cases h3 : con l 3
     ·right; right; right; right; right; right; right; exact ⟨h.1, h.2, hs, h2, h3, by simp [hs, h2, h3]⟩
     ·right; right; right; right; right; right; left; exact ⟨h.1, h.2, hs, h2, h3, by simp [hs, h2, h3]⟩
    ·right; right; right; right; left; exact ⟨by omega, by omega, hs, h2, by simp [hs, h2]⟩
   ·right; right; left; exact ⟨by omega, by omega, hs, by simp [hs]⟩
  ·right; left; exact ⟨h, by simp⟩
theorem sec_cases (l : List UInt8) : sec l ↔ 1 < l.length /\ 128 <= bt l 1 /\ bt l 1 <= 191 /\ (bt l 0 = 224 -> 160 <= bt l 1) /\ (bt l 0 = 240 -> 144 <= bt l 1) /\ (bt l 0 = 237 -> bt l 1 <= 159) /\ (bt l 0 = 244 -> bt l 1 <= 143) := by
 unfold sec loOf hiOf
 generalize bt l 0 = b0; generalize bt l 1 = b1
 (repeat' split) <;> omega
theorem con_iff (l : List UInt8) (i : Nat) : con l i ↔ i < l.length /\ 128 <= bt l i /\ bt l i <= 191 := Iff.rfl
theorem nx_le (l : List UInt8) (h : l ≠ []) : 1 <= (nx l).2 /\ (nx l).2 <= 4 /\ (nx l).2 <= l.length := by
 have hl : 0 < l.length := List.length_pos_iff.2 h
 rcases nx_cases l with ⟨_, e⟩ | ⟨_, e⟩ | ⟨_, _, _, e⟩ | ⟨_, _, hs, e⟩ | ⟨_, _, hs, _, e⟩ | ⟨_, _, hs, h2, e⟩ | ⟨_, _, hs, h2, _, e⟩ | ⟨_, _, hs, h2, h3, e⟩ <;> rw [e] <;> simp only [sec, con] at * <;> omega
def isScalar (n : Int) : Prop := 0 <= n /\ n <= 1114111 /\ (n < 55296 \/ 57343 < n)
instance (n : Int) : Decidable (isScalar n) := by unfold isScalar; infer_instance
theorem nx_scalar (l : List UInt8) : isScalar (nx l).1 := by
 have h0 := bt_lt l 0; have h1 := bt_lt l 1; have h2 := bt_lt l 2; have h3 := bt_lt l 3
 unfold isScalar
 rcases nx_cases l with ⟨_, e⟩ | ⟨_, e⟩ | ⟨_, _, _, e⟩ | ⟨_, _, hs, e⟩ | ⟨_, _, hs, _, e⟩ | ⟨_, _, hs, h2, e⟩ | ⟨_, _, hs, h2, _, e⟩ | ⟨_, _, hs, h2, h3, e⟩ <;> rw [e] <;> simp only [sec_cases, con] at * <;> omega
theorem get_bt (s : ByteArray) (i k : Nat) : ((s.get! (i + k)).toNat : Int) = bt (s.data.toList.drop i) k := by
 rw [bt_drop]; unfold bt
 show ((s.data[i + k]!).toNat : Int) = _
 congr 2
 by_cases h : i + k < s.data.size
 ·rw [getElem!_pos s.data (i + k) h, List.getD, Array.getElem?_toList, Array.getElem?_eq_getElem h]; rfl
 ·rw [getElem!_neg s.data (i + k) h, List.getD, Array.getElem?_toList, Array.getElem?_eq_none (by omega)]; rfl
theorem con_size (s : ByteArray) (i k : Nat) : con (s.data.toList.drop i) k ↔ (i + k < s.size /\ (s.get! (i + k)).toNat / 64 = 2) := by
 have e := get_bt s i k
 have hz : s.data.toList.length = s.size := rfl
 unfold con
 rw [List.length_drop, hz, <- e]
 omega
theorem decode_cases (s : ByteArray) (i : Nat) :
  ∃ (r n : Nat), Utf8.decode s i = (r, n) /\
  (((r : Int) = bt (s.data.toList.drop i) 0 /\ n = 1 /\ bt (s.data.toList.drop i) 0 < 128) \/
   ((r : Int) = bt (s.data.toList.drop i) 0 % 32 * 64 + bt (s.data.toList.drop i) 1 % 64 /\ n = 2 /\ 194 <= bt (s.data.toList.drop i) 0 /\ bt (s.data.toList.drop i) 0 < 224 /\ con (s.data.toList.drop i) 1) \/
   ((r : Int) = (bt (s.data.toList.drop i) 0 % 16 * 64 + bt (s.data.toList.drop i) 1 % 64) * 64 + bt (s.data.toList.drop i) 2 % 64 /\ n = 3 /\ 224 <= bt (s.data.toList.drop i) 0 /\ bt (s.data.toList.drop i) 0 < 240 /\ con (s.data.toList.drop i) 1 /\ con (s.data.toList.drop i) 2 /\ 2048 <= r /\ (r < 55296 \/ 57344 <= r)) \/
   ((r : Int) = ((bt (s.data.toList.drop i) 0 % 8 * 64 + bt (s.data.toList.drop i) 1 % 64) * 64 + bt (s.data.toList.drop i) 2 % 64) * 64 + bt (s.data.toList.drop i) 3 % 64 /\ n = 4 /\ 240 <= bt (s.data.toList.drop i) 0 /\ bt (s.data.toList.drop i) 0 < 248 /\ con (s.data.toList.drop i) 1 /\ con (s.data.toList.drop i) 2 /\ con (s.data.toList.drop i) 3 /\ 65536 <= r /\ r <= 1114111) \/
   (r = 65533 /\ n = 1 /\ 128 <= bt (s.data.toList.drop i) 0 /\ (194 <= bt (s.data.toList.drop i) 0 -> bt (s.data.toList.drop i) 0 < 224 -> ¬ con (s.data.toList.drop i) 1) /\
    (224 <= bt (s.data.toList.drop i) 0 -> bt (s.data.toList.drop i) 0 < 240 -> ¬ (con (s.data.toList.drop i) 1 /\ con (s.data.toList.drop i) 2 /\ 2048 <= (bt (s.data.toList.drop i) 0 % 16 * 64 + bt (s.data.toList.drop i) 1 % 64) * 64 + bt (s.data.toList.drop i) 2 % 64 /\ ((bt (s.data.toList.drop i) 0 % 16 * 64 + bt (s.data.toList.drop i) 1 % 64) * 64 + bt (s.data.toList.drop i) 2 % 64 < 55296 \/ 57344 <= (bt (s.data.toList.drop i) 0 % 16 * 64 + bt (s.data.toList.drop i) 1 % 64) * 64 + bt (s.data.toList.drop i) 2 % 64))) /\
    (240 <= bt (s.data.toList.drop i) 0 -> bt (s.data.toList.drop i) 0 < 248 -> ¬ (con (s.data.toList.drop i) 1 /\ con (s.data.toList.drop i) 2 /\ con (s.data.toList.drop i) 3 /\ 65536 <= ((bt (s.data.toList.drop i) 0 % 8 * 64 + bt (s.data.toList.drop i) 1 % 64) * 64 + bt (s.data.toList.drop i) 2 % 64) * 64 + bt (s.data.toList.drop i) 3 % 64 /\ ((bt (s.data.toList.drop i) 0 % 8 * 64 + bt (s.data.toList.drop i) 1 % 64) * 64 + bt (s.data.toList.drop i) 2 % 64) * 64 + bt (s.data.toList.drop i) 3 % 64 <= 1114111)))) := by
  have e0 := get_bt s i 0; have e1 := get_bt s i 1; have e2 := get_bt s i 2; have e3 := get_bt s i 3
  have c1 := con_size s i 1; have c2 := con_size s i 2; have c3 := con_size s i 3
  have l0 := bt_lt (s.data.toList.drop i) 0; have l1 := bt_lt (s.data.toList.drop i) 1; have l2 := bt_lt (s.data.toList.drop i) 2; have l3 := bt_lt (s.data.toList.drop i) 3
  have hc1 : (decide (i + 1 < s.size) && (s.get! (i + 1)).toNat / 64 == 2) = decide (con (s.data.toList.drop i) 1) := by rw [Bool.eq_iff_iff]; simp [c1]
  have hc2 : (decide (i + 2 < s.size) && (s.get! (i + 2)).toNat / 64 == 2) = decide (con (s.data.toList.drop i) 2) := by rw [Bool.eq_iff_iff]; simp [c2]
  have hc3 : (decide (i + 3 < s.size) && (s.get! (i + 3)).toNat / 64 == 2) = decide (con (s.data.toList.drop i) 3) := by rw [Bool.eq_iff_iff]; simp [c3]
  have hd : Utf8.decode s i = if (s.get! (i + 0)).toNat < 128 then ((s.get! (i + 0)).toNat, 1)
    else if ((s.get! (i + 0)).toNat / 32 == 6 && decide (con (s.data.toList.drop i) 1)) then (if (s.get! (i + 0)).toNat % 32 * 64 + (s.get! (i + 1)).toNat % 64 >= 128 then ((s.get! (i + 0)).toNat % 32 * 64 + (s.get! (i + 1)).toNat % 64, 2) else (65533, 1))
    else if ((s.get! (i + 0)).toNat / 16 == 14 && decide (con (s.data.toList.drop i) 1) && decide (con (s.data.toList.drop i) 2)) then
     (if (s.get! (i + 0)).toNat % 16 * 4096 + (s.get! (i + 1)).toNat % 64 * 64 + (s.get! (i + 2)).toNat % 64 >= 2048 && Utf8.valid (((s.get! (i + 0)).toNat % 16 * 4096 + (s.get! (i + 1)).toNat % 64 * 64 + (s.get! (i + 2)).toNat % 64 : Nat)) then ((s.get! (i + 0)).toNat % 16 * 4096 + (s.get! (i + 1)).toNat % 64 * 64 + (s.get! (i + 2)).toNat % 64, 3) else (65533, 1))
    else if ((s.get! (i + 0)).toNat / 8 == 30 && decide (con (s.data.toList.drop i) 1) && decide (con (s.data.toList.drop i) 2) && decide (con (s.data.toList.drop i) 3)) then
     (if (s.get! (i + 0)).toNat % 8 * 262144 + (s.get! (i + 1)).toNat % 64 * 4096 + (s.get! (i + 2)).toNat % 64 * 64 + (s.get! (i + 3)).toNat % 64 >= 65536 && Utf8.valid (((s.get! (i + 0)).toNat % 8 * 262144 + (s.get! (i + 1)).toNat % 64 * 4096 + (s.get! (i + 2)).toNat % 64 * 64 + (s.get! (i + 3)).toNat % 64 : Nat)) then ((s.get! (i + 0)).toNat % 8 * 262144 + (s.get! (i + 1)).toNat % 64 * 4096 + (s.get! (i + 2)).toNat % 64 * 64 + (s.get! (i + 3)).toNat % 64, 4) else (65533, 1))
    else (65533, 1) := by
    rw [<- hc1, <- hc2, <- hc3]; rfl
  rw [hd]
  clear hd hc1 hc2 hc3 c1 c2 c3
  generalize s.data.toList.drop i = l at *
  generalize (s.get! (i + 0)).toNat = a0 at *; generalize (s.get! (i + 1)).toNat = a1 at *; generalize (s.get! (i + 2)).toNat = a2 at *; generalize (s.get! (i + 3)).toNat = a3 at *
  generalize bt l 0 = b0 at *; generalize bt l 1 = b1 at *; generalize bt l 2 = b2 at *; generalize bt l 3 = b3 at *
  subst e0 e1 e2 e3
  have f1 : decide False = false := rfl
  by_cases C1 : con l 1 <;> by_cases C2 : con l 2 <;> by_cases C3 : con l 3 <;>
   simp only [C1, C2, C3, decide_true, f1, Bool.and_true, Bool.and_false, Bool.false_eq_true, if_false, beq_iff_eq, Bool.and_eq_true, decide_eq_true_eq, Utf8.valid, Bool.or_eq_true, true_and, false_and, and_true, and_false, false_or, not_true_eq_false, not_false_eq_true, implies_true, ge_iff_le]
  all_goals
   (repeat' split) <;> refine ⟨_, _, rfl, ?_⟩ <;> first | exact Or.inl (by omega) | exact Or.inr (Or.inl (by omega)) | exact Or.inr (Or.inr (Or.inl (by omega))) | exact Or.inr (Or.inr (Or.inr (Or.inl (by omega)))) | (refine Or.inr (Or.inr (Or.inr (Or.inr ⟨rfl, rfl, ?_⟩))); omega) | omega
theorem decode_nx (s : ByteArray) (i : Nat) (hi : i < s.size) :
  ((((Utf8.decode s i).1 : Int), (Utf8.decode s i).2) = nx (s.data.toList.drop i)) \/
  (Utf8.decode s i = (65533, 1) /\ (nx (s.data.toList.drop i)).1 = 65533 /\ ∀ j, 1 <= j -> j < (nx (s.data.toList.drop i)).2 -> con (s.data.toList.drop i) j) := by
  obtain ⟨r, n, hd, h⟩ := decode_cases s i
  have hn := nx_cases (s.data.toList.drop i)
  have l0 := bt_lt (s.data.toList.drop i) 0; have l1 := bt_lt (s.data.toList.drop i) 1; have l2 := bt_lt (s.data.toList.drop i) 2; have l3 := bt_lt (s.data.toList.drop i) 3
  have lz : 0 < (s.data.toList.drop i).length := by rw [List.length_drop]; show 0 < s.size - i; omega
  rw [hd]
  generalize s.data.toList.drop i = l at *
  simp only [sec_cases, con_iff] at *
  simp only [Prod.mk.injEq]
  rcases hn with ⟨g, e⟩ | ⟨g, e⟩ | ⟨g1, g2, hs, e⟩ | ⟨g1, g2, hs, e⟩ | ⟨g1, g2, hs, h2, e⟩ | ⟨g1, g2, hs, h2, e⟩ | ⟨g1, g2, hs, h2, h3, e⟩ | ⟨g1, g2, hs, h2, h3, e⟩ <;> rw [e] <;> simp only [Prod.mk.injEq] <;> clear e
  ·left; omega
  ·left; omega
  ·exact Or.inr ⟨by omega, trivial, fun j h1 h2 => by omega⟩
  ·left; rcases h with h | h | h | h | h <;> omega
  ·right
   refine ⟨by rcases h with h | h | h | h | h <;> omega, trivial, fun j hj1 hj2 => ?_⟩
   obtain rfl : j = 1 := by omega
   exact ⟨hs.1, hs.2.1, hs.2.2.1⟩
  ·left; rcases h with h | h | h | h | h <;> omega
  ·right
   refine ⟨by rcases h with h | h | h | h | h <;> omega, trivial, fun j hj1 hj2 => ?_⟩
   rcases (show j = 1 \/ j = 2 by omega) with rfl | rfl
   ·exact ⟨hs.1, hs.2.1, hs.2.2.1⟩
   ·exact h2
  ·left; rcases h with h | h | h | h | h <;> omega
theorem decode_con (s : ByteArray) (i j : Nat) (h : con (s.data.toList.drop i) j) : Utf8.decode s (i + j) = (65533, 1) := by
 obtain ⟨r, n, hd, h'⟩ := decode_cases s (i + j)
 have e : bt (s.data.toList.drop (i + j)) 0 = bt (s.data.toList.drop i) j := by rw [bt_drop, bt_drop]; rfl
 rw [con_iff] at h
 rw [e] at h'
 rw [hd]
 have : r = 65533 /\ n = 1 := by omega
 rw [this.1, this.2]
end Go.Proofs.Ytacgakkcpmhgmaa
namespace Go.Proofs.Ytacgakkcpmhgmaa
open Go.RowKit
theorem ret_int {k : IntKind} {a b : Int} (h : a = b) : Ending.returned (.int k a) = .returned (.int k b) := by rw [h]
theorem ret_bool {a b : Bool} (h : a = b) : Ending.returned (.bool a) = .returned (.bool b) := by rw [h]
def scB (n : Int) : Bool := decide (isScalar n)
theorem scB_iff (n : Int) : scB n = true ↔ isScalar n := by unfold scB; simp
theorem scB_cases (n : Int) : (n < 0 /\ scB n = false) \/ (0 <= n /\ n < 55296 /\ scB n = true) \/ (55296 <= n /\ n <= 57343 /\ scB n = false) \/ (57343 < n /\ n <= 1114111 /\ scB n = true) \/ (1114111 < n /\ scB n = false) := by
 have h : scB n = true ↔ 0 <= n /\ n <= 1114111 /\ (n < 55296 \/ 57343 < n) := scB_iff n
 cases e : scB n
 ·have : ¬ (0 <= n /\ n <= 1114111 /\ (n < 55296 \/ 57343 < n)) := fun hh => by rw [h.2 hh] at e; cases e
  simp only [Bool.false_eq_true, and_false, and_true, false_or]
  omega
 ·have := h.1 e
  simp only [Bool.true_eq_false, and_false, and_true, or_false, false_or]
  omega
theorem refscalar_any (n : Int) (w : World) :
  Calls Try.prog 40 #[.int .i64 n] w fun e w' => e = .returned (.bool (scB n)) /\ w = w' := by
  rcases scB_cases n with ⟨h1, h⟩ | ⟨h1, h2, h⟩ | ⟨h1, h2, h⟩ | ⟨h1, h2, h⟩ | ⟨h1, h⟩ <;> (have H := Lib.hid h; clear h)
  all_goals
   go_enter Try.func40, Try.ntmps40
   go_wp2_with fail
   go_ret
   exact ⟨ret_bool (by rw [H.out] <;> first | rfl | exact decide_eq_false (by omega) | exact decide_eq_true (by omega) | (simp; done) | (simp; omega)), rfl⟩
theorem size_any (c : Int) (w : World) (h0 : 0 <= c) (h1 : c < 256) :
  Calls Try.prog 67 #[.int .u8 c] w fun e w' => e = .returned (.int .i64 (szOf c)) /\ w = w' := by
  rcases szOf_cases c with ⟨h, g⟩ | ⟨h, g1, g2⟩ | ⟨h, g1, g2⟩ | ⟨h, g1, g2⟩ | ⟨h, ⟨g1, g2⟩ | g⟩ <;> (have H := Lib.hid h; clear h)
  all_goals
   go_enter Try.func67, Try.ntmps67
   go_wp2_with fail
   go_ret
   exact ⟨ret_int (by rw [H.out]; rfl), rfl⟩
def uinB (lo hi c : Int) : Bool := decide (lo <= c /\ c <= hi)
theorem inB_cases (lo hi c : Int) : (c < lo /\ uinB lo hi c = false) \/ (lo <= c /\ c <= hi /\ uinB lo hi c = true) \/ (lo <= c /\ hi < c /\ uinB lo hi c = false) := by
 unfold uinB
 by_cases h1 : lo <= c <;> by_cases h2 : c <= hi <;> simp [h1, h2] <;> omega
theorem uinB_iff (lo hi c : Int) : uinB lo hi c = true ↔ lo <= c /\ c <= hi := by unfold uinB; simp
theorem loOf_cases (c : Int) : (c = 224 /\ loOf c = 160 /\ hiOf c = 191) \/ (c = 237 /\ loOf c = 128 /\ hiOf c = 159) \/ (c = 240 /\ loOf c = 144 /\ hiOf c = 191) \/ (c = 244 /\ loOf c = 128 /\ hiOf c = 143) \/ (c ≠ 224 /\ c ≠ 237 /\ c ≠ 240 /\ c ≠ 244 /\ loOf c = 128 /\ hiOf c = 191) := by
 unfold loOf hiOf
 (repeat' split) <;> omega
theorem second_any (f c : Int) (w : World) (h0 : 0 <= c) (h1 : c < 256) :
  Calls Try.prog 68 #[.int .u8 f, .int .u8 c] w fun e w' => e = .returned (.bool (uinB (loOf f) (hiOf f) c)) /\ w = w' := by
  rcases loOf_cases f with ⟨rfl, h2, h3⟩ | ⟨rfl, h2, h3⟩ | ⟨rfl, h2, h3⟩ | ⟨rfl, h2, h3⟩ | ⟨n1, n2, n3, n4, h2, h3⟩ <;> rw [h2, h3] <;> clear h2 h3
  all_goals
   rcases inB_cases _ _ c with ⟨g1, h⟩ | ⟨g1, g2, h⟩ | ⟨g1, g2, h⟩
  all_goals
   have H := Lib.hid h; clear h
   go_enter Try.func68, Try.ntmps68
   go_wp2_with fail
   all_goals
    go_ret
    exact ⟨ret_bool (by rw [H.out] <;> first | rfl | exact decide_eq_false (by omega) | exact decide_eq_true (by omega) | (simp; done) | (simp; omega)), rfl⟩
theorem tmod_neg (a n : Int) (h0 : a < 0) (hn : 1 <= n) : (a % n = 0 /\ a.tmod n = 0) \/ (1 <= a % n /\ a.tmod n = a % n - n) := by
 have h1 : 0 <= a % n := Int.emod_nonneg _ (by omega)
 have h2 : (n.natAbs : Int) = n := by omega
 rw [Int.tmod_eq_emod]
 by_cases h : a % n = 0
 ·left
  have : n ∣ a := Int.dvd_iff_emod_eq_zero.2 h
  simp [h, this]
 ·right
  have : ¬ n ∣ a := fun hd => h (Int.dvd_iff_emod_eq_zero.1 hd)
  have h3 : ¬ 0 <= a := by omega
  rw [if_neg (by simp only [this, h3, or_self, not_false_eq_true]), h2]
  omega
theorem uwithin_any (a n : Int) (w : World) (wa : (Lit.int .i64 a).wf = true) (hn : 1 <= n) (hn' : n <= 1152921504606846976) :
  Calls Try.prog 45 #[.int .i64 a, .int .i64 n] w fun e w' => e = .returned (.int .i64 (a % n)) /\ w = w' := by
  have hb := bounds_i64 wa
  have hlt : a % n < n := Int.emod_lt_of_pos _ (by omega)
  clear wa
  by_cases h0 : 0 <= a
  ·have h1 : 0 <= a % n := Int.emod_nonneg _ (by omega)
   go_enter Try.func45, Try.ntmps45
   go_wp2
   go_ret
   exact ⟨rfl, rfl⟩
  ·rcases tmod_neg a n (by omega) hn with ⟨h1, h2⟩ | ⟨h1, h2⟩
   ·have h3 : 0 <= a.tmod n := by omega
    have H1 := Lib.hid h1; have H2 := Lib.hid h2; clear h1 h2
    go_enter Try.func45, Try.ntmps45
    go_wp2
    go_ret
    exact ⟨ret_int (by rw [H1.out, H2.out]), rfl⟩
   ·have h3 : a.tmod n < 0 := by omega
    have h4 : -1152921504606846976 <= a.tmod n := by omega
    have H2 := Lib.hid h2; clear h2
    go_enter Try.func45, Try.ntmps45
    go_wp2
    go_ret
    exact ⟨ret_int (by rw [H2.out]; omega), rfl⟩
end Go.Proofs.Ytacgakkcpmhgmaa
namespace Go.Proofs.Ytacgakkcpmhgmaa
open Go.RowKit
theorem ubcell {W w1 : World} {B : Nat} (hb : Below B W w1) : (∀ b o, b < B -> w1.cell? ⟨b, o, none⟩ = W.cell? ⟨b, o, none⟩) /\ (∀ b o, b < B -> w1.frozen? ⟨b, o, none⟩ = W.frozen? ⟨b, o, none⟩) :=
 ⟨fun b o h => hb.cell (p := ⟨b, o, none⟩) h, fun b o h => hb.frozen (p := ⟨b, o, none⟩) h⟩
theorem ubehind_any (w : World) :
  Calls Try.prog 91 #[] w fun e w' => e = .returned (.agg #[.int .u8 128, .int .u8 191]) /\ Below w.heap.size w w' := by
  go_enter Try.func91, Try.ntmps91
  go_wp2_with fail
  refine bodyPost_ret (v := .agg #[.int .u8 128, .int .u8 191]) (by simp [results, Try.results91, go_sem]) rfl ⟨rfl, ?_⟩
  exact (Below.refl _ _).alloc (Nat.le_refl _) _
theorem has_any (lo hi c : Int) (w : World) :
  Calls Try.prog 90 #[.agg #[.int .u8 lo, .int .u8 hi], .int .u8 c] w fun e w' => e = .returned (.bool (uinB lo hi c)) /\ Below w.heap.size w w' := by
  rcases inB_cases lo hi c with ⟨g1, h⟩ | ⟨g1, g2, h⟩ | ⟨g1, g2, h⟩ <;> (have H := Lib.hid h; clear h)
  all_goals
   go_enter Try.func90, Try.ntmps90
   go_wp2_with fail
   go_ret
   exact ⟨ret_bool (by rw [H.out] <;> first | rfl | exact decide_eq_false (by omega) | exact decide_eq_true (by omega) | (simp; done) | (simp; omega)), (Below.refl _ _).alloc (Nat.le_refl _) _⟩
def lsOf (c : Int) : Int := if c < 194 then 1 else if c <= 223 then 2 else if c <= 239 then 3 else if c <= 244 then 4 else 1
def spLo (c : Int) : Int := if c < 194 \/ 244 < c then 0 else loOf c
def spHi (c : Int) : Int := if c < 194 \/ 244 < c then 0 else hiOf c
theorem lead_cases (c : Int) : (c < 194 /\ lsOf c = 1 /\ spLo c = 0 /\ spHi c = 0) \/ (194 <= c /\ c <= 223 /\ lsOf c = 2 /\ spLo c = 128 /\ spHi c = 191) \/ ((224 <= c /\ c <= 224) /\ lsOf c = 3 /\ spLo c = 160 /\ spHi c = 191) \/ ((237 <= c /\ c <= 237) /\ lsOf c = 3 /\ spLo c = 128 /\ spHi c = 159) \/
  (224 < c /\ c < 240 /\ c ≠ 237 /\ lsOf c = 3 /\ spLo c = 128 /\ spHi c = 191) \/ ((240 <= c /\ c <= 240) /\ lsOf c = 4 /\ spLo c = 144 /\ spHi c = 191) \/ (240 < c /\ c < 244 /\ lsOf c = 4 /\ spLo c = 128 /\ spHi c = 191) \/ ((244 <= c /\ c <= 244) /\ lsOf c = 4 /\ spLo c = 128 /\ spHi c = 143) \/ (244 < c /\ lsOf c = 1 /\ spLo c = 0 /\ spHi c = 0) := by
  unfold lsOf spLo spHi loOf hiOf
  by_cases h1 : c < 194
  ·simp [h1]
  ·by_cases h2 : 244 < c
   ·simp [h1, h2]; omega
   ·simp only [h1, h2, or_self, if_false]
    (repeat' split) <;> omega
theorem lead_plain (c : Int) (w : World) (h0 : 0 <= c) (h255 : c < 256) (h : c < 194 \/ (224 <= c /\ c <= 224) \/ (237 <= c /\ c <= 237) \/ (240 <= c /\ c <= 240) \/ (244 <= c /\ c <= 244) \/ 244 < c) :
  Calls Try.prog 89 #[.int .u8 c] w fun e w' => e = .returned (.tuple #[.int .i64 (lsOf c), .agg #[.int .u8 (spLo c), .int .u8 (spHi c)]]) /\ Below w.heap.size w w' := by
  rcases lead_cases c with ⟨g, a1, a2, a3⟩ | ⟨g1, g2, a1, a2, a3⟩ | ⟨⟨g1, g2⟩, a1, a2, a3⟩ | ⟨⟨g1, g2⟩, a1, a2, a3⟩ | ⟨g1, g2, g3, a1, a2, a3⟩ | ⟨⟨g1, g2⟩, a1, a2, a3⟩ | ⟨g1, g2, a1, a2, a3⟩ | ⟨⟨g1, g2⟩, a1, a2, a3⟩ | ⟨g, a1, a2, a3⟩ <;> have A1 := Lib.hid a1 <;> have A2 := Lib.hid a2 <;> have A3 := Lib.hid a3 <;> clear a1 a2 a3 <;> first | (exfalso; omega) | clear h
  all_goals
   first | (have t1 : ((c : Int) == 224) = false := by (simp; omega)) | (have t1 : ((c : Int) == 224) = true := by (simp; omega))
   first | (have t2 : ((c : Int) == 237) = false := by (simp; omega)) | (have t2 : ((c : Int) == 237) = true := by (simp; omega))
   first | (have t3 : ((c : Int) == 240) = false := by (simp; omega)) | (have t3 : ((c : Int) == 240) = true := by (simp; omega))
   first | (have t4 : ((c : Int) == 244) = false := by (simp; omega)) | (have t4 : ((c : Int) == 244) = true := by (simp; omega))
   go_enter Try.func89, Try.ntmps89
   go_wp2_with fail
   with_reducible refine bodyPost_ret (v := .tuple #[.int .i64 (lsOf c), .agg #[.int .u8 (spLo c), .int .u8 (spHi c)]]) (by simp [results, Try.results89, go_sem, A1.out, A2.out, A3.out]) rfl ⟨rfl, ?_⟩
   exact (Below.refl _ _).alloc (Nat.le_refl _) _
theorem lead_call (c : Int) (w : World) (h0 : 0 <= c) (h255 : c < 256) (h : (194 <= c /\ c <= 223) \/ (224 < c /\ c < 240 /\ c ≠ 237) \/ (240 < c /\ c < 244)) :
  Calls Try.prog 89 #[.int .u8 c] w fun e w' => e = .returned (.tuple #[.int .i64 (lsOf c), .agg #[.int .u8 (spLo c), .int .u8 (spHi c)]]) /\ Below w.heap.size w w' := by
  rcases lead_cases c with ⟨g, a1, a2, a3⟩ | ⟨g1, g2, a1, a2, a3⟩ | ⟨⟨g1, g2⟩, a1, a2, a3⟩ | ⟨⟨g1, g2⟩, a1, a2, a3⟩ | ⟨g1, g2, g3, a1, a2, a3⟩ | ⟨⟨g1, g2⟩, a1, a2, a3⟩ | ⟨g1, g2, a1, a2, a3⟩ | ⟨⟨g1, g2⟩, a1, a2, a3⟩ | ⟨g, a1, a2, a3⟩ <;> have A1 := Lib.hid a1 <;> have A2 := Lib.hid a2 <;> have A3 := Lib.hid a3 <;> clear a1 a2 a3 <;> first | (exfalso; omega) | clear h
  all_goals
   first | (have t1 : ((c : Int) == 224) = false := by (simp; omega)) | (have t1 : ((c : Int) == 224) = true := by (simp; omega))
   first | (have t2 : ((c : Int) == 237) = false := by (simp; omega)) | (have t2 : ((c : Int) == 237) = true := by (simp; omega))
   first | (have t3 : ((c : Int) == 240) = false := by (simp; omega)) | (have t3 : ((c : Int) == 240) = true := by (simp; omega))
   first | (have t4 : ((c : Int) == 244) = false := by (simp; omega)) | (have t4 : ((c : Int) == 244) = true := by (simp; omega))
   go_enter Try.func89, Try.ntmps89
   go_wp2_with fail
   refine (ubehind_any _).mono ?_
   rintro e w1 ⟨rfl, hb⟩
   have d0 : w1.cell? ⟨w.heap.size, 0, none⟩ = some (.int .u8 0) := by rw [(ubcell hb).1 _ _ (by simp)]; simp [go_sem]
   have d1 : w1.cell? ⟨w.heap.size, 1, none⟩ = some (.int .u8 0) := by rw [(ubcell hb).1 _ _ (by simp)]; simp [go_sem]
   have f1 : ∀ o, w1.frozen? ⟨w.heap.size, o, none⟩ = false := fun o => by rw [(ubcell hb).2 _ _ (by simp)]; simp [go_sem]
   have hbw : Below w.heap.size w w1 := ((Below.refl _ _).alloc (Nat.le_refl _) _).trans (hb.mono (by simp))
   have hz : w.heap.size + 1 <= w1.heap.size := by have := hb.size; simpa using this
   clear hb
   go_wp2_with fail
   with_reducible refine bodyPost_ret (v := .tuple #[.int .i64 (lsOf c), .agg #[.int .u8 (spLo c), .int .u8 (spHi c)]]) (by simp [results, Try.results89, go_sem, A1.out, A2.out, A3.out, d0, d1]) rfl ⟨rfl, ?_⟩
   repeat (first | (with_reducible exact hbw) | (with_reducible refine Below.setCell ?_ (by simp) _))
theorem ulead_any (c : Int) (w : World) (h0 : 0 <= c) (h255 : c < 256) :
  Calls Try.prog 89 #[.int .u8 c] w fun e w' => e = .returned (.tuple #[.int .i64 (lsOf c), .agg #[.int .u8 (spLo c), .int .u8 (spHi c)]]) /\ Below w.heap.size w w' := by
  by_cases h : (194 <= c /\ c <= 223) \/ (224 < c /\ c < 240 /\ c ≠ 237) \/ (240 < c /\ c < 244)
  ·exact lead_call c w h0 h255 h
  ·exact lead_plain c w h0 h255 (by omega)
def fr (l : List UInt8) : Nat :=
 if lsOf (bt l 0) < 2 then 1
 else if ¬ (1 < l.length /\ uinB (spLo (bt l 0)) (spHi (bt l 0)) (bt l 1) = true) then 1
 else if lsOf (bt l 0) < 3 then 2
 else if ¬ (2 < l.length /\ uinB 128 191 (bt l 2) = true) then 2
 else if lsOf (bt l 0) < 4 then 3
 else if ¬ (3 < l.length /\ uinB 128 191 (bt l 3) = true) then 3 else 4
end Go.Proofs.Ytacgakkcpmhgmaa
namespace Go.Proofs.Ytacgakkcpmhgmaa
open Go.RowKit
theorem lsOf_le (c : Int) : 1 <= lsOf c /\ lsOf c <= 4 := by unfold lsOf; (repeat' split) <;> omega
theorem fr_cases (l : List UInt8) (x0 x1 x2 x3 : Int) (h0 : bt l 0 = x0) (h1 : bt l 1 = x1) (h2 : bt l 2 = x2) (h3 : bt l 3 = x3) :
  (lsOf x0 <= 1 /\ fr l = 1) \/ (2 <= lsOf x0 /\ l.length <= 1 /\ fr l = 1) \/ (2 <= lsOf x0 /\ 1 < l.length /\ uinB (spLo x0) (spHi x0) x1 = false /\ fr l = 1) \/
  (lsOf x0 <= 2 /\ 2 <= lsOf x0 /\ 1 < l.length /\ uinB (spLo x0) (spHi x0) x1 = true /\ fr l = 2) \/
  (3 <= lsOf x0 /\ 1 < l.length /\ l.length <= 2 /\ uinB (spLo x0) (spHi x0) x1 = true /\ fr l = 2) \/
  (3 <= lsOf x0 /\ 2 < l.length /\ uinB (spLo x0) (spHi x0) x1 = true /\ uinB 128 191 x2 = false /\ fr l = 2) \/
  (3 <= lsOf x0 /\ lsOf x0 <= 3 /\ 2 < l.length /\ uinB (spLo x0) (spHi x0) x1 = true /\ uinB 128 191 x2 = true /\ fr l = 3) \/
  (4 <= lsOf x0 /\ lsOf x0 <= 4 /\ 2 < l.length /\ l.length <= 3 /\ uinB (spLo x0) (spHi x0) x1 = true /\ uinB 128 191 x2 = true /\ fr l = 3) \/
  (4 <= lsOf x0 /\ lsOf x0 <= 4 /\ 3 < l.length /\ uinB (spLo x0) (spHi x0) x1 = true /\ uinB 128 191 x2 = true /\ uinB 128 191 x3 = false /\ fr l = 3) \/
  (4 <= lsOf x0 /\ lsOf x0 <= 4 /\ 3 < l.length /\ uinB (spLo x0) (spHi x0) x1 = true /\ uinB 128 191 x2 = true /\ uinB 128 191 x3 = true /\ fr l = 4) := by
  have hb := lsOf_le x0
  unfold fr
  rw [h0, h1, h2, h3]
  generalize uinB (spLo x0) (spHi x0) x1 = B1; generalize uinB 128 191 x2 = B2; generalize uinB 128 191 x3 = B3; generalize lsOf x0 = n at *
  by_cases n1 : n <= 1
  ·left; simp; (repeat' split) <;> omega
  by_cases c1 : 1 < l.length
  ·cases B1
   ·right; right; left; simp; (repeat' split) <;> omega
   ·by_cases n2 : n <= 2
    ·right; right; right; left; simp [c1]; (repeat' split) <;> omega
    ·by_cases c2 : 2 < l.length
     ·cases B2
      ·right; right; right; right; right; left; simp [c1]; (repeat' split) <;> omega
      ·by_cases n3 : n <= 3
       ·right; right; right; right; right; right; left; simp [c1, c2]; (repeat' split) <;> omega
       ·by_cases c3 : 3 < l.length
        ·cases B3
         ·right; right; right; right; right; right; right; right; left; simp [c1, c2]; (repeat' split) <;> omega
         ·right; right; right; right; right; right; right; right; right; simp [c1, c2, c3]; (repeat' split) <;> omega
        ·right; right; right; right; right; right; right; left; simp [c1, c2]; (repeat' split) <;> omega
     ·right; right; right; right; left; simp [c1]; (repeat' split) <;> omega
  ·right; left; simp; (repeat' split) <;> omega
theorem bt_get (s : ByteArray) (i : Nat) (h : i < s.size) : ((s[i]'h).toNat : Int) = bt s.data.toList i := by
 have e := get_bt s 0 i
 rw [List.drop_zero, Nat.zero_add] at e
 rw [<- e]
 congr 2
 cases s with
 | mk d => exact (getElem!_pos d i h).symm
theorem below_step {w a b : World} (h : Below w.heap.size w a) (k : Below a.heap.size a b) : Below w.heap.size w b := h.trans (k.mono h.size)
theorem ubelow_drewN {B : Nat} {a w : World} (h : Below B a w) (n : Nat) : Below B a (w.drewN n) := ⟨h.os, h.tape, h.output, h.size, h.block⟩
theorem front_any (s : ByteArray) (w : World) (hs : 0 < s.size) (hm : s.size <= 9223372036854775807) :
  Calls Try.prog 85 #[.string s] w fun e w' => e = .returned (.int .i64 (fr s.data.toList)) /\ Below w.heap.size w w' := by
  obtain ⟨x0, q0⟩ : ∃ x, bt s.data.toList 0 = x := ⟨_, rfl⟩
  obtain ⟨x1, q1⟩ : ∃ x, bt s.data.toList 1 = x := ⟨_, rfl⟩
  obtain ⟨x2, q2⟩ : ∃ x, bt s.data.toList 2 = x := ⟨_, rfl⟩
  obtain ⟨x3, q3⟩ : ∃ x, bt s.data.toList 3 = x := ⟨_, rfl⟩
  have y0 : ((s[0]'hs).toNat : Int) = x0 := by rw [bt_get s 0 hs, q0]
  have r0 := bt_lt s.data.toList 0; rw [q0] at r0
  have hl : s.data.toList.length = s.size := rfl
  have hc := fr_cases s.data.toList _ _ _ _ q0 q1 q2 q3
  rw [hl] at hc
  have hb := lsOf_le x0
  clear hl
  have Y0 := Lib.hid y0; have Q1 := Lib.hid q1; have Q2 := Lib.hid q2; have Q3 := Lib.hid q3; clear y0 q0 q1 q2 q3
  generalize fr s.data.toList = F at *
  rcases hc with ⟨a1, hf⟩ | ⟨a1, a2, hf⟩ | ⟨a1, a2, b1, hf⟩ | ⟨a1, a2, a3, b1, hf⟩ | ⟨a1, a2, a3, b1, hf⟩ | ⟨a1, a2, b1, b2, hf⟩ | ⟨a1, a2, a3, b1, b2, hf⟩ | ⟨a1, a2, a3, a4, b1, b2, hf⟩ | ⟨a1, a2, a3, b1, b2, b3, hf⟩ | ⟨a1, a2, a3, b1, b2, b3, hf⟩ <;> have HF := Lib.hid hf <;> clear hf
  ·go_enter Try.func85, Try.ntmps85
   go_wp2_with fail
   rw [Y0.out]
   refine (ulead_any _ _ (by omega) (by omega)).mono ?_
   rintro e w1 ⟨rfl, hb1⟩
   go_wp2_with fail
   go_quiet (fail)
   go_wp2_with fail
   refine wp_loop_rounds 4 ?_; rw [rounds_succ]
   go_wp2_with fail
   go_ret
   exact ⟨ret_int (by rw [HF.out]; rfl), (ubelow_drewN ((hb1).alloc hb1.size _) _)⟩
  ·go_enter Try.func85, Try.ntmps85
   go_wp2_with fail
   rw [Y0.out]
   refine (ulead_any _ _ (by omega) (by omega)).mono ?_
   rintro e w1 ⟨rfl, hb1⟩
   go_wp2_with fail
   go_quiet (fail)
   go_wp2_with fail
   refine wp_loop_rounds 4 ?_; rw [rounds_succ]
   go_wp2_with fail
   go_ret
   exact ⟨ret_int (by rw [HF.out]; rfl), (ubelow_drewN ((hb1).alloc hb1.size _) _)⟩
  ·rcases Int.lt_or_le (s.size : Int) (lsOf x0) with hms | hms
   all_goals
    have y1 : ((s[1]'(by omega)).toNat : Int) = x1 := by rw [bt_get s 1 (by omega), Q1.out]
    have Y1 := Lib.hid y1; clear y1
    go_enter Try.func85, Try.ntmps85
    go_wp2_with fail
    rw [Y0.out]
    refine (ulead_any _ _ (by omega) (by omega)).mono ?_
    rintro e w1 ⟨rfl, hb1⟩
    go_wp2_with fail
    go_quiet (fail)
    go_wp2_with fail
    refine wp_loop_rounds 4 ?_; rw [rounds_succ]
    go_wp2_with fail
    rw [Y1.out]
    refine (has_any _ _ _ _).mono ?_
    rintro e w2 ⟨rfl, hb2⟩
    rw [b1]
    have hB2 : Below w.heap.size w w2 := below_step (ubelow_drewN ((hb1).alloc hb1.size _) _) hb2
    clear hb2
    go_wp2_with fail
    go_ret
    exact ⟨ret_int (by rw [HF.out]; rfl), hB2⟩
  ·have y1 : ((s[1]'(by omega)).toNat : Int) = x1 := by rw [bt_get s 1 (by omega), Q1.out]
   have Y1 := Lib.hid y1; clear y1
   go_enter Try.func85, Try.ntmps85
   go_wp2_with fail
   rw [Y0.out]
   refine (ulead_any _ _ (by omega) (by omega)).mono ?_
   rintro e w1 ⟨rfl, hb1⟩
   go_wp2_with fail
   go_quiet (fail)
   go_wp2_with fail
   refine wp_loop_rounds 4 ?_; rw [rounds_succ]
   go_wp2_with fail
   rw [Y1.out]
   refine (has_any _ _ _ _).mono ?_
   rintro e w2 ⟨rfl, hb2⟩
   rw [b1]
   have hB2 : Below w.heap.size w w2 := below_step (ubelow_drewN ((hb1).alloc hb1.size _) _) hb2
   clear hb2
   go_wp2_with fail
   refine (ubehind_any _).mono ?_
   rintro e w3 ⟨rfl, hb3⟩
   have hB3 : Below w.heap.size w w3 := below_step hB2 hb3
   clear hb3
   go_wp2_with fail
   rw [rounds_succ]
   go_wp2_with fail
   go_ret
   exact ⟨ret_int (by rw [HF.out]; rfl), hB3⟩
  ·have y1 : ((s[1]'(by omega)).toNat : Int) = x1 := by rw [bt_get s 1 (by omega), Q1.out]
   have Y1 := Lib.hid y1; clear y1
   go_enter Try.func85, Try.ntmps85
   go_wp2_with fail
   rw [Y0.out]
   refine (ulead_any _ _ (by omega) (by omega)).mono ?_
   rintro e w1 ⟨rfl, hb1⟩
   go_wp2_with fail
   go_quiet (fail)
   go_wp2_with fail
   refine wp_loop_rounds 4 ?_; rw [rounds_succ]
   go_wp2_with fail
   rw [Y1.out]
   refine (has_any _ _ _ _).mono ?_
   rintro e w2 ⟨rfl, hb2⟩
   rw [b1]
   have hB2 : Below w.heap.size w w2 := below_step (ubelow_drewN ((hb1).alloc hb1.size _) _) hb2
   clear hb2
   go_wp2_with fail
   refine (ubehind_any _).mono ?_
   rintro e w3 ⟨rfl, hb3⟩
   have hB3 : Below w.heap.size w w3 := below_step hB2 hb3
   clear hb3
   go_wp2_with fail
   rw [rounds_succ]
   go_wp2_with fail
   go_ret
   exact ⟨ret_int (by rw [HF.out]; rfl), hB3⟩
  ·rcases Int.lt_or_le (s.size : Int) (lsOf x0) with hms | hms
   all_goals
    have y1 : ((s[1]'(by omega)).toNat : Int) = x1 := by rw [bt_get s 1 (by omega), Q1.out]
    have Y1 := Lib.hid y1; clear y1
    have y2 : ((s[2]'(by omega)).toNat : Int) = x2 := by rw [bt_get s 2 (by omega), Q2.out]
    have Y2 := Lib.hid y2; clear y2
    go_enter Try.func85, Try.ntmps85
    go_wp2_with fail
    rw [Y0.out]
    refine (ulead_any _ _ (by omega) (by omega)).mono ?_
    rintro e w1 ⟨rfl, hb1⟩
    go_wp2_with fail
    go_quiet (fail)
    go_wp2_with fail
    refine wp_loop_rounds 4 ?_; rw [rounds_succ]
    go_wp2_with fail
    rw [Y1.out]
    refine (has_any _ _ _ _).mono ?_
    rintro e w2 ⟨rfl, hb2⟩
    rw [b1]
    have hB2 : Below w.heap.size w w2 := below_step (ubelow_drewN ((hb1).alloc hb1.size _) _) hb2
    clear hb2
    go_wp2_with fail
    refine (ubehind_any _).mono ?_
    rintro e w3 ⟨rfl, hb3⟩
    have hB3 : Below w.heap.size w w3 := below_step hB2 hb3
    clear hb3
    go_wp2_with fail
    rw [rounds_succ]
    go_wp2_with fail
    rw [Y2.out]
    refine (has_any _ _ _ _).mono ?_
    rintro e w4 ⟨rfl, hb4⟩
    rw [b2]
    have hB4 : Below w.heap.size w w4 := below_step hB3 hb4
    clear hb4
    go_wp2_with fail
    go_ret
    exact ⟨ret_int (by rw [HF.out]; rfl), hB4⟩
  ·have y1 : ((s[1]'(by omega)).toNat : Int) = x1 := by rw [bt_get s 1 (by omega), Q1.out]
   have Y1 := Lib.hid y1; clear y1
   have y2 : ((s[2]'(by omega)).toNat : Int) = x2 := by rw [bt_get s 2 (by omega), Q2.out]
   have Y2 := Lib.hid y2; clear y2
   go_enter Try.func85, Try.ntmps85
   go_wp2_with fail
   rw [Y0.out]
   refine (ulead_any _ _ (by omega) (by omega)).mono ?_
   rintro e w1 ⟨rfl, hb1⟩
   go_wp2_with fail
   go_quiet (fail)
   go_wp2_with fail
   refine wp_loop_rounds 4 ?_; rw [rounds_succ]
   go_wp2_with fail
   rw [Y1.out]
   refine (has_any _ _ _ _).mono ?_
   rintro e w2 ⟨rfl, hb2⟩
   rw [b1]
   have hB2 : Below w.heap.size w w2 := below_step (ubelow_drewN ((hb1).alloc hb1.size _) _) hb2
   clear hb2
   go_wp2_with fail
   refine (ubehind_any _).mono ?_
   rintro e w3 ⟨rfl, hb3⟩
   have hB3 : Below w.heap.size w w3 := below_step hB2 hb3
   clear hb3
   go_wp2_with fail
   rw [rounds_succ]
   go_wp2_with fail
   rw [Y2.out]
   refine (has_any _ _ _ _).mono ?_
   rintro e w4 ⟨rfl, hb4⟩
   rw [b2]
   have hB4 : Below w.heap.size w w4 := below_step hB3 hb4
   clear hb4
   go_wp2_with fail
   refine (ubehind_any _).mono ?_
   rintro e w5 ⟨rfl, hb5⟩
   have hB5 : Below w.heap.size w w5 := below_step hB4 hb5
   clear hb5
   go_wp2_with fail
   rw [rounds_succ]
   go_wp2_with fail
   go_ret
   exact ⟨ret_int (by rw [HF.out]; rfl), hB5⟩
  ·have y1 : ((s[1]'(by omega)).toNat : Int) = x1 := by rw [bt_get s 1 (by omega), Q1.out]
   have Y1 := Lib.hid y1; clear y1
   have y2 : ((s[2]'(by omega)).toNat : Int) = x2 := by rw [bt_get s 2 (by omega), Q2.out]
   have Y2 := Lib.hid y2; clear y2
   go_enter Try.func85, Try.ntmps85
   go_wp2_with fail
   rw [Y0.out]
   refine (ulead_any _ _ (by omega) (by omega)).mono ?_
   rintro e w1 ⟨rfl, hb1⟩
   go_wp2_with fail
   go_quiet (fail)
   go_wp2_with fail
   refine wp_loop_rounds 4 ?_; rw [rounds_succ]
   go_wp2_with fail
   rw [Y1.out]
   refine (has_any _ _ _ _).mono ?_
   rintro e w2 ⟨rfl, hb2⟩
   rw [b1]
   have hB2 : Below w.heap.size w w2 := below_step (ubelow_drewN ((hb1).alloc hb1.size _) _) hb2
   clear hb2
   go_wp2_with fail
   refine (ubehind_any _).mono ?_
   rintro e w3 ⟨rfl, hb3⟩
   have hB3 : Below w.heap.size w w3 := below_step hB2 hb3
   clear hb3
   go_wp2_with fail
   rw [rounds_succ]
   go_wp2_with fail
   rw [Y2.out]
   refine (has_any _ _ _ _).mono ?_
   rintro e w4 ⟨rfl, hb4⟩
   rw [b2]
   have hB4 : Below w.heap.size w w4 := below_step hB3 hb4
   clear hb4
   go_wp2_with fail
   refine (ubehind_any _).mono ?_
   rintro e w5 ⟨rfl, hb5⟩
   have hB5 : Below w.heap.size w w5 := below_step hB4 hb5
   clear hb5
   go_wp2_with fail
   rw [rounds_succ]
   go_wp2_with fail
   go_ret
   exact ⟨ret_int (by rw [HF.out]; rfl), hB5⟩
  ·have y1 : ((s[1]'(by omega)).toNat : Int) = x1 := by rw [bt_get s 1 (by omega), Q1.out]
   have Y1 := Lib.hid y1; clear y1
   have y2 : ((s[2]'(by omega)).toNat : Int) = x2 := by rw [bt_get s 2 (by omega), Q2.out]
   have Y2 := Lib.hid y2; clear y2
   have y3 : ((s[3]'(by omega)).toNat : Int) = x3 := by rw [bt_get s 3 (by omega), Q3.out]
   have Y3 := Lib.hid y3; clear y3
   go_enter Try.func85, Try.ntmps85
   go_wp2_with fail
   rw [Y0.out]
   refine (ulead_any _ _ (by omega) (by omega)).mono ?_
   rintro e w1 ⟨rfl, hb1⟩
   go_wp2_with fail
   go_quiet (fail)
   go_wp2_with fail
   refine wp_loop_rounds 4 ?_; rw [rounds_succ]
   go_wp2_with fail
   rw [Y1.out]
   refine (has_any _ _ _ _).mono ?_
   rintro e w2 ⟨rfl, hb2⟩
   rw [b1]
   have hB2 : Below w.heap.size w w2 := below_step (ubelow_drewN ((hb1).alloc hb1.size _) _) hb2
   clear hb2
   go_wp2_with fail
   refine (ubehind_any _).mono ?_
   rintro e w3 ⟨rfl, hb3⟩
   have hB3 : Below w.heap.size w w3 := below_step hB2 hb3
   clear hb3
   go_wp2_with fail
   rw [rounds_succ]
   go_wp2_with fail
   rw [Y2.out]
   refine (has_any _ _ _ _).mono ?_
   rintro e w4 ⟨rfl, hb4⟩
   rw [b2]
   have hB4 : Below w.heap.size w w4 := below_step hB3 hb4
   clear hb4
   go_wp2_with fail
   refine (ubehind_any _).mono ?_
   rintro e w5 ⟨rfl, hb5⟩
   have hB5 : Below w.heap.size w w5 := below_step hB4 hb5
   clear hb5
   go_wp2_with fail
   rw [rounds_succ]
   go_wp2_with fail
   rw [Y3.out]
   refine (has_any _ _ _ _).mono ?_
   rintro e w6 ⟨rfl, hb6⟩
   rw [b3]
   have hB6 : Below w.heap.size w w6 := below_step hB5 hb6
   clear hb6
   go_wp2_with fail
   go_ret
   exact ⟨ret_int (by rw [HF.out]; rfl), hB6⟩
  ·have y1 : ((s[1]'(by omega)).toNat : Int) = x1 := by rw [bt_get s 1 (by omega), Q1.out]
   have Y1 := Lib.hid y1; clear y1
   have y2 : ((s[2]'(by omega)).toNat : Int) = x2 := by rw [bt_get s 2 (by omega), Q2.out]
   have Y2 := Lib.hid y2; clear y2
   have y3 : ((s[3]'(by omega)).toNat : Int) = x3 := by rw [bt_get s 3 (by omega), Q3.out]
   have Y3 := Lib.hid y3; clear y3
   go_enter Try.func85, Try.ntmps85
   go_wp2_with fail
   rw [Y0.out]
   refine (ulead_any _ _ (by omega) (by omega)).mono ?_
   rintro e w1 ⟨rfl, hb1⟩
   go_wp2_with fail
   go_quiet (fail)
   go_wp2_with fail
   refine wp_loop_rounds 4 ?_; rw [rounds_succ]
   go_wp2_with fail
   rw [Y1.out]
   refine (has_any _ _ _ _).mono ?_
   rintro e w2 ⟨rfl, hb2⟩
   rw [b1]
   have hB2 : Below w.heap.size w w2 := below_step (ubelow_drewN ((hb1).alloc hb1.size _) _) hb2
   clear hb2
   go_wp2_with fail
   refine (ubehind_any _).mono ?_
   rintro e w3 ⟨rfl, hb3⟩
   have hB3 : Below w.heap.size w w3 := below_step hB2 hb3
   clear hb3
   go_wp2_with fail
   rw [rounds_succ]
   go_wp2_with fail
   rw [Y2.out]
   refine (has_any _ _ _ _).mono ?_
   rintro e w4 ⟨rfl, hb4⟩
   rw [b2]
   have hB4 : Below w.heap.size w w4 := below_step hB3 hb4
   clear hb4
   go_wp2_with fail
   refine (ubehind_any _).mono ?_
   rintro e w5 ⟨rfl, hb5⟩
   have hB5 : Below w.heap.size w w5 := below_step hB4 hb5
   clear hb5
   go_wp2_with fail
   rw [rounds_succ]
   go_wp2_with fail
   rw [Y3.out]
   refine (has_any _ _ _ _).mono ?_
   rintro e w6 ⟨rfl, hb6⟩
   rw [b3]
   have hB6 : Below w.heap.size w w6 := below_step hB5 hb6
   clear hb6
   go_wp2_with fail
   refine (ubehind_any _).mono ?_
   rintro e w7 ⟨rfl, hb7⟩
   have hB7 : Below w.heap.size w w7 := below_step hB6 hb7
   clear hb7
   go_wp2_with fail
   rw [rounds_succ]
   go_wp2_with fail
   go_ret
   exact ⟨ret_int (by rw [HF.out]; rfl), hB7⟩
end Go.Proofs.Ytacgakkcpmhgmaa
