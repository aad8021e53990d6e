/- Plain mathematics of UTF-8, of no program: what the first scalar of a row of bytes is and how many bytes it has. -/
import Derived.Lib.RuneBytes
import Derived.Laws.RangeAny
namespace Go.Proofs.Ytcdenblejfmkaaa

/-- Byte i of a row; 0 behind its end. -/
def bt (l : List UInt8) (i : Nat) : Int := ((l.getD i 0).toNat : Int)
theorem bt_lt (l : List UInt8) (i : Nat) : 0 ≤ bt l i ∧ bt l i < 256 := by
  have := (l.getD i 0).toNat_lt
  unfold bt; omega
theorem bt_drop (l : List UInt8) (k i : Nat) : bt (l.drop k) i = bt l (k + i) := by
  unfold bt; simp [List.getD]

/-- How many bytes a scalar that begins so has; 0: none does. -/
def szOf (c : Int) : Nat := if c < 128 then 1 else if 194 ≤ c ∧ c ≤ 223 then 2 else if 224 ≤ c ∧ c ≤ 239 then 3 else if 240 ≤ c ∧ c ≤ 244 then 4 else 0
def loOf (c : Int) : Int := if c = 224 then 160 else if c = 240 then 144 else 128
def hiOf (c : Int) : Int := if c = 237 then 159 else if c = 244 then 143 else 191
/-- The second byte fits the first. -/
def sec (l : List UInt8) : Prop := 1 < l.length ∧ loOf (bt l 0) ≤ bt l 1 ∧ bt l 1 ≤ hiOf (bt l 0)
/-- Byte i goes on a scalar. -/
def con (l : List UInt8) (i : Nat) : Prop := i < l.length ∧ 128 ≤ bt l i ∧ bt l i ≤ 191
instance (l : List UInt8) : Decidable (sec l) := by unfold sec; infer_instance
instance (l : List UInt8) (i : Nat) : Decidable (con l i) := by unfold con; infer_instance

/-- The scalar that begins a row (that is not empty), and how many bytes it has. -/
def nx (l : List UInt8) : Int × Nat :=
  if szOf (bt l 0) = 0 then (65533, 1)
  else if szOf (bt l 0) = 1 then (bt l 0, 1)
  else if ¬ sec l then (65533, 1)
  else if szOf (bt l 0) = 2 then (bt l 0 % 32 * 64 + bt l 1 % 64, 2)
  else if ¬ con l 2 then (65533, 2)
  else if szOf (bt l 0) = 3 then ((bt l 0 % 16 * 64 + bt l 1 % 64) * 64 + bt l 2 % 64, 3)
  else if ¬ con l 3 then (65533, 3)
  else (((bt l 0 % 8 * 64 + bt l 1 % 64) * 64 + bt l 2 % 64) * 64 + bt l 3 % 64, 4)

theorem szOf_cases (c : Int) : (szOf c = 1 ∧ c < 128) ∨ (szOf c = 2 ∧ 194 ≤ c ∧ c ≤ 223) ∨ (szOf c = 3 ∧ 224 ≤ c ∧ c ≤ 239) ∨ (szOf c = 4 ∧ 240 ≤ c ∧ c ≤ 244) ∨ (szOf c = 0 ∧ ((128 ≤ c ∧ c < 194) ∨ 244 < c)) := by
  unfold szOf
  (repeat' split) <;> omega

/-- The ways that a row may begin. -/
theorem nx_cases (l : List UInt8) :
    (bt l 0 < 128 ∧ nx l = (bt l 0, 1)) ∨
    (((128 ≤ bt l 0 ∧ bt l 0 < 194) ∨ 244 < bt l 0) ∧ nx l = (65533, 1)) ∨
    (194 ≤ bt l 0 ∧ bt l 0 ≤ 244 ∧ ¬ sec l ∧ nx l = (65533, 1)) ∨
    (194 ≤ bt l 0 ∧ bt l 0 ≤ 223 ∧ sec l ∧ nx l = (bt l 0 % 32 * 64 + bt l 1 % 64, 2)) ∨
    (224 ≤ bt l 0 ∧ bt l 0 ≤ 244 ∧ sec l ∧ ¬ con l 2 ∧ nx l = (65533, 2)) ∨
    (224 ≤ bt l 0 ∧ bt l 0 ≤ 239 ∧ sec l ∧ con l 2 ∧ nx l = ((bt l 0 % 16 * 64 + bt l 1 % 64) * 64 + bt l 2 % 64, 3)) ∨
    (240 ≤ bt l 0 ∧ bt l 0 ≤ 244 ∧ sec l ∧ con l 2 ∧ ¬ con l 3 ∧ nx l = (65533, 3)) ∨
    (240 ≤ bt l 0 ∧ bt l 0 ≤ 244 ∧ sec l ∧ con l 2 ∧ con l 3 ∧ nx l = (((bt l 0 % 8 * 64 + bt l 1 % 64) * 64 + bt l 2 % 64) * 64 + bt l 3 % 64, 4)) := by
  unfold nx
  rcases szOf_cases (bt l 0) with ⟨e, h⟩ | ⟨e, h⟩ | ⟨e, h⟩ | ⟨e, h⟩ | ⟨e, h⟩ <;> rw [e]
  · left; exact ⟨h, by simp⟩
  · by_cases hs : sec l
    · right; right; right; left; exact ⟨h.1, h.2, hs, by simp [hs]⟩
    · right; right; left; exact ⟨by omega, by omega, hs, by simp [hs]⟩
  · by_cases hs : sec l
    · by_cases h2 : con l 2
      · right; right; right; right; right; left; exact ⟨h.1, h.2, hs, h2, by simp [hs, h2]⟩
      · right; right; right; right; left; exact ⟨by omega, by omega, hs, h2, by simp [hs, h2]⟩
    · right; right; left; exact ⟨by omega, by omega, hs, by simp [hs]⟩
  · by_cases hs : sec l
    · by_cases h2 : con l 2
      · by_cases h3 : con l 3
        · right; right; right; right; right; right; right; exact ⟨h.1, h.2, hs, h2, h3, by simp [hs, h2, h3]⟩
        · right; right; right; right; right; right; left; exact ⟨h.1, h.2, hs, h2, h3, by simp [hs, h2, h3]⟩
      · right; right; right; right; left; exact ⟨by omega, by omega, hs, h2, by simp [hs, h2]⟩
    · right; right; left; exact ⟨by omega, by omega, hs, by simp [hs]⟩
  · right; left; exact ⟨h, by simp⟩

theorem sec_cases (l : List UInt8) : sec l ↔ 1 < l.length ∧ 128 ≤ bt l 1 ∧ bt l 1 ≤ 191 ∧ (bt l 0 = 224 → 160 ≤ bt l 1) ∧ (bt l 0 = 240 → 144 ≤ bt l 1) ∧ (bt l 0 = 237 → bt l 1 ≤ 159) ∧ (bt l 0 = 244 → bt l 1 ≤ 143) := by
  unfold sec loOf hiOf
  generalize bt l 0 = b0; generalize bt l 1 = b1
  (repeat' split) <;> omega
theorem con_iff (l : List UInt8) (i : Nat) : con l i ↔ i < l.length ∧ 128 ≤ bt l i ∧ bt l i ≤ 191 := Iff.rfl

theorem nx_le (l : List UInt8) (h : l ≠ []) : 1 ≤ (nx l).2 ∧ (nx l).2 ≤ 4 ∧ (nx l).2 ≤ l.length := by
  have hl : 0 < l.length := List.length_pos_iff.2 h
  rcases nx_cases l with ⟨_, e⟩ | ⟨_, e⟩ | ⟨_, _, _, e⟩ | ⟨_, _, hs, e⟩ | ⟨_, _, hs, _, e⟩ | ⟨_, _, hs, h2, e⟩ | ⟨_, _, hs, h2, _, e⟩ | ⟨_, _, hs, h2, h3, e⟩ <;> rw [e] <;> simp only [sec, con] at * <;> omega

/-- A number is a scalar. -/
def isScalar (n : Int) : Prop := 0 ≤ n ∧ n ≤ 1114111 ∧ (n < 55296 ∨ 57343 < n)
instance (n : Int) : Decidable (isScalar n) := by unfold isScalar; infer_instance

theorem nx_scalar (l : List UInt8) : isScalar (nx l).1 := by
  have h0 := bt_lt l 0; have h1 := bt_lt l 1; have h2 := bt_lt l 2; have h3 := bt_lt l 3
  unfold isScalar
  rcases nx_cases l with ⟨_, e⟩ | ⟨_, e⟩ | ⟨_, _, _, e⟩ | ⟨_, _, hs, e⟩ | ⟨_, _, hs, _, e⟩ | ⟨_, _, hs, h2, e⟩ | ⟨_, _, hs, h2, _, e⟩ | ⟨_, _, hs, h2, h3, e⟩ <;> rw [e] <;> simp only [sec_cases, con] at * <;> omega

/-- THE MODEL's OWN DECODE of a row at place i, by the row from there on. -/
theorem get_bt (s : ByteArray) (i k : Nat) : ((s.get! (i + k)).toNat : Int) = bt (s.data.toList.drop i) k := by
  rw [bt_drop]; unfold bt
  show ((s.data[i + k]!).toNat : Int) = _
  congr 2
  by_cases h : i + k < s.data.size
  · rw [getElem!_pos s.data (i + k) h, List.getD, Array.getElem?_toList, Array.getElem?_eq_getElem h]; rfl
  · rw [getElem!_neg s.data (i + k) h, List.getD, Array.getElem?_toList, Array.getElem?_eq_none (by omega)]; rfl
theorem con_size (s : ByteArray) (i k : Nat) : con (s.data.toList.drop i) k ↔ (i + k < s.size ∧ (s.get! (i + k)).toNat / 64 = 2) := by
  have e := get_bt s i k
  have hz : s.data.toList.length = s.size := rfl
  unfold con
  rw [List.length_drop, hz, ← e]
  omega

set_option maxHeartbeats 2000000 in
/-- The model's decode, by cases. -/
theorem decode_cases (s : ByteArray) (i : Nat) :
    ∃ (r n : Nat), Utf8.decode s i = (r, n) ∧
    (((r : Int) = bt (s.data.toList.drop i) 0 ∧ n = 1 ∧ bt (s.data.toList.drop i) 0 < 128) ∨
     ((r : Int) = bt (s.data.toList.drop i) 0 % 32 * 64 + bt (s.data.toList.drop i) 1 % 64 ∧ n = 2 ∧ 194 ≤ bt (s.data.toList.drop i) 0 ∧ bt (s.data.toList.drop i) 0 < 224 ∧ con (s.data.toList.drop i) 1) ∨
     ((r : Int) = (bt (s.data.toList.drop i) 0 % 16 * 64 + bt (s.data.toList.drop i) 1 % 64) * 64 + bt (s.data.toList.drop i) 2 % 64 ∧ n = 3 ∧ 224 ≤ bt (s.data.toList.drop i) 0 ∧ bt (s.data.toList.drop i) 0 < 240 ∧ con (s.data.toList.drop i) 1 ∧ con (s.data.toList.drop i) 2 ∧ 2048 ≤ r ∧ (r < 55296 ∨ 57344 ≤ r)) ∨
     ((r : Int) = ((bt (s.data.toList.drop i) 0 % 8 * 64 + bt (s.data.toList.drop i) 1 % 64) * 64 + bt (s.data.toList.drop i) 2 % 64) * 64 + bt (s.data.toList.drop i) 3 % 64 ∧ n = 4 ∧ 240 ≤ bt (s.data.toList.drop i) 0 ∧ bt (s.data.toList.drop i) 0 < 248 ∧ con (s.data.toList.drop i) 1 ∧ con (s.data.toList.drop i) 2 ∧ con (s.data.toList.drop i) 3 ∧ 65536 ≤ r ∧ r ≤ 1114111) ∨
     (r = 65533 ∧ n = 1 ∧ 128 ≤ bt (s.data.toList.drop i) 0 ∧ (194 ≤ bt (s.data.toList.drop i) 0 → bt (s.data.toList.drop i) 0 < 224 → ¬ con (s.data.toList.drop i) 1) ∧
       (224 ≤ bt (s.data.toList.drop i) 0 → bt (s.data.toList.drop i) 0 < 240 → ¬ (con (s.data.toList.drop i) 1 ∧ con (s.data.toList.drop i) 2 ∧ 2048 ≤ (bt (s.data.toList.drop i) 0 % 16 * 64 + bt (s.data.toList.drop i) 1 % 64) * 64 + bt (s.data.toList.drop i) 2 % 64 ∧ ((bt (s.data.toList.drop i) 0 % 16 * 64 + bt (s.data.toList.drop i) 1 % 64) * 64 + bt (s.data.toList.drop i) 2 % 64 < 55296 ∨ 57344 ≤ (bt (s.data.toList.drop i) 0 % 16 * 64 + bt (s.data.toList.drop i) 1 % 64) * 64 + bt (s.data.toList.drop i) 2 % 64))) ∧
       (240 ≤ bt (s.data.toList.drop i) 0 → bt (s.data.toList.drop i) 0 < 248 → ¬ (con (s.data.toList.drop i) 1 ∧ con (s.data.toList.drop i) 2 ∧ con (s.data.toList.drop i) 3 ∧ 65536 ≤ ((bt (s.data.toList.drop i) 0 % 8 * 64 + bt (s.data.toList.drop i) 1 % 64) * 64 + bt (s.data.toList.drop i) 2 % 64) * 64 + bt (s.data.toList.drop i) 3 % 64 ∧ ((bt (s.data.toList.drop i) 0 % 8 * 64 + bt (s.data.toList.drop i) 1 % 64) * 64 + bt (s.data.toList.drop i) 2 % 64) * 64 + bt (s.data.toList.drop i) 3 % 64 ≤ 1114111)))) := by
  have e0 := get_bt s i 0; have e1 := get_bt s i 1; have e2 := get_bt s i 2; have e3 := get_bt s i 3
  have c1 := con_size s i 1; have c2 := con_size s i 2; have c3 := con_size s i 3
  have l0 := bt_lt (s.data.toList.drop i) 0; have l1 := bt_lt (s.data.toList.drop i) 1; have l2 := bt_lt (s.data.toList.drop i) 2; have l3 := bt_lt (s.data.toList.drop i) 3
  have hc1 : (decide (i + 1 < s.size) && (s.get! (i + 1)).toNat / 64 == 2) = decide (con (s.data.toList.drop i) 1) := by rw [Bool.eq_iff_iff]; simp [c1]
  have hc2 : (decide (i + 2 < s.size) && (s.get! (i + 2)).toNat / 64 == 2) = decide (con (s.data.toList.drop i) 2) := by rw [Bool.eq_iff_iff]; simp [c2]
  have hc3 : (decide (i + 3 < s.size) && (s.get! (i + 3)).toNat / 64 == 2) = decide (con (s.data.toList.drop i) 3) := by rw [Bool.eq_iff_iff]; simp [c3]
  have hd : Utf8.decode s i = if (s.get! (i + 0)).toNat < 128 then ((s.get! (i + 0)).toNat, 1)
      else if ((s.get! (i + 0)).toNat / 32 == 6 && decide (con (s.data.toList.drop i) 1)) then (if (s.get! (i + 0)).toNat % 32 * 64 + (s.get! (i + 1)).toNat % 64 ≥ 128 then ((s.get! (i + 0)).toNat % 32 * 64 + (s.get! (i + 1)).toNat % 64, 2) else (65533, 1))
      else if ((s.get! (i + 0)).toNat / 16 == 14 && decide (con (s.data.toList.drop i) 1) && decide (con (s.data.toList.drop i) 2)) then
        (if (s.get! (i + 0)).toNat % 16 * 4096 + (s.get! (i + 1)).toNat % 64 * 64 + (s.get! (i + 2)).toNat % 64 ≥ 2048 && Utf8.valid (((s.get! (i + 0)).toNat % 16 * 4096 + (s.get! (i + 1)).toNat % 64 * 64 + (s.get! (i + 2)).toNat % 64 : Nat)) then ((s.get! (i + 0)).toNat % 16 * 4096 + (s.get! (i + 1)).toNat % 64 * 64 + (s.get! (i + 2)).toNat % 64, 3) else (65533, 1))
      else if ((s.get! (i + 0)).toNat / 8 == 30 && decide (con (s.data.toList.drop i) 1) && decide (con (s.data.toList.drop i) 2) && decide (con (s.data.toList.drop i) 3)) then
        (if (s.get! (i + 0)).toNat % 8 * 262144 + (s.get! (i + 1)).toNat % 64 * 4096 + (s.get! (i + 2)).toNat % 64 * 64 + (s.get! (i + 3)).toNat % 64 ≥ 65536 && Utf8.valid (((s.get! (i + 0)).toNat % 8 * 262144 + (s.get! (i + 1)).toNat % 64 * 4096 + (s.get! (i + 2)).toNat % 64 * 64 + (s.get! (i + 3)).toNat % 64 : Nat)) then ((s.get! (i + 0)).toNat % 8 * 262144 + (s.get! (i + 1)).toNat % 64 * 4096 + (s.get! (i + 2)).toNat % 64 * 64 + (s.get! (i + 3)).toNat % 64, 4) else (65533, 1))
      else (65533, 1) := by
    rw [← hc1, ← hc2, ← hc3]; rfl
  rw [hd]
  clear hd hc1 hc2 hc3 c1 c2 c3
  generalize s.data.toList.drop i = l at *
  generalize (s.get! (i + 0)).toNat = a0 at *; generalize (s.get! (i + 1)).toNat = a1 at *; generalize (s.get! (i + 2)).toNat = a2 at *; generalize (s.get! (i + 3)).toNat = a3 at *
  generalize bt l 0 = b0 at *; generalize bt l 1 = b1 at *; generalize bt l 2 = b2 at *; generalize bt l 3 = b3 at *
  subst e0 e1 e2 e3
  have f1 : decide False = false := rfl
  by_cases C1 : con l 1 <;> by_cases C2 : con l 2 <;> by_cases C3 : con l 3 <;>
    simp only [C1, C2, C3, decide_true, f1, Bool.and_true, Bool.and_false, Bool.false_eq_true, if_false, beq_iff_eq, Bool.and_eq_true, decide_eq_true_eq, Utf8.valid, Bool.or_eq_true, true_and, false_and, and_true, and_false, false_or, not_true_eq_false, not_false_eq_true, implies_true, ge_iff_le]
  all_goals
    (repeat' split) <;> refine ⟨_, _, rfl, ?_⟩ <;> first | exact Or.inl (by omega) | exact Or.inr (Or.inl (by omega)) | exact Or.inr (Or.inr (Or.inl (by omega))) | exact Or.inr (Or.inr (Or.inr (Or.inl (by omega)))) | (refine Or.inr (Or.inr (Or.inr (Or.inr ⟨rfl, rfl, ?_⟩))); omega) | omega

set_option maxHeartbeats 4000000 in
/-- WHAT 'range' GIVES AT A PLACE, by what the document says: the same; or, where the row is broken, FFFD of one byte, and the bytes behind it go on none. -/
theorem decode_nx (s : ByteArray) (i : Nat) (hi : i < s.size) :
    ((((Utf8.decode s i).1 : Int), (Utf8.decode s i).2) = nx (s.data.toList.drop i)) ∨
    (Utf8.decode s i = (65533, 1) ∧ (nx (s.data.toList.drop i)).1 = 65533 ∧ ∀ j, 1 ≤ j → j < (nx (s.data.toList.drop i)).2 → con (s.data.toList.drop i) j) := by
  obtain ⟨r, n, hd, h⟩ := decode_cases s i
  have hn := nx_cases (s.data.toList.drop i)
  have l0 := bt_lt (s.data.toList.drop i) 0; have l1 := bt_lt (s.data.toList.drop i) 1; have l2 := bt_lt (s.data.toList.drop i) 2; have l3 := bt_lt (s.data.toList.drop i) 3
  have lz : 0 < (s.data.toList.drop i).length := by rw [List.length_drop]; show 0 < s.size - i; omega
  rw [hd]
  generalize s.data.toList.drop i = l at *
  simp only [sec_cases, con_iff] at *
  simp only [Prod.mk.injEq]
  rcases hn with ⟨g, e⟩ | ⟨g, e⟩ | ⟨g1, g2, hs, e⟩ | ⟨g1, g2, hs, e⟩ | ⟨g1, g2, hs, h2, e⟩ | ⟨g1, g2, hs, h2, e⟩ | ⟨g1, g2, hs, h2, h3, e⟩ | ⟨g1, g2, hs, h2, h3, e⟩ <;> rw [e] <;> simp only [Prod.mk.injEq] <;> clear e
  · left; omega
  · left; omega
  · exact Or.inr ⟨by omega, trivial, fun j h1 h2 => by omega⟩
  · left; rcases h with h | h | h | h | h <;> omega
  · right
    refine ⟨by rcases h with h | h | h | h | h <;> omega, trivial, fun j hj1 hj2 => ?_⟩
    obtain rfl : j = 1 := by omega
    exact ⟨hs.1, hs.2.1, hs.2.2.1⟩
  · left; rcases h with h | h | h | h | h <;> omega
  · right
    refine ⟨by rcases h with h | h | h | h | h <;> omega, trivial, fun j hj1 hj2 => ?_⟩
    rcases (show j = 1 ∨ j = 2 by omega) with rfl | rfl
    · exact ⟨hs.1, hs.2.1, hs.2.2.1⟩
    · exact h2
  · left; rcases h with h | h | h | h | h <;> omega

/-- A byte that goes on a scalar begins none. -/
theorem decode_con (s : ByteArray) (i j : Nat) (h : con (s.data.toList.drop i) j) : Utf8.decode s (i + j) = (65533, 1) := by
  obtain ⟨r, n, hd, h'⟩ := decode_cases s (i + j)
  have e : bt (s.data.toList.drop (i + j)) 0 = bt (s.data.toList.drop i) j := by rw [bt_drop, bt_drop]; rfl
  rw [con_iff] at h
  rw [e] at h'
  rw [hd]
  have : r = 65533 ∧ n = 1 := by omega
  rw [this.1, this.2]

end Go.Proofs.Ytcdenblejfmkaaa
