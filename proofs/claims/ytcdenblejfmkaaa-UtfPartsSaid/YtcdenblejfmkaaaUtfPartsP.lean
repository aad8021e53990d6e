/- Plain mathematics: a front of a scalar, and a byte below 80 behind it. -/
import Derived.Test.YtcdenblejfmkaaaUtfU
namespace Go.Proofs.Ytcdenblejfmkaaa
open Go.RowKit Go.Proofs

theorem nx_low (y : UInt8) (hy : (y.toNat : Int) < 128) : nx [y] = ((y.toNat : Int), 1) := by
  have b0 : bt [y] 0 = (y.toNat : Int) := rfl
  have hn := nx_cases [y]
  rw [b0] at hn
  rcases hn with ⟨_, e⟩ | ⟨_, e⟩ | ⟨_, _, _, e⟩ | ⟨_, _, _, e⟩ | ⟨_, _, _, _, e⟩ | ⟨_, _, _, _, e⟩ | ⟨_, _, _, _, _, e⟩ | ⟨_, _, _, _, _, e⟩ <;> first | (exfalso; omega) | exact e

theorem bt_app (a : List UInt8) (y : UInt8) : bt (a ++ [y]) a.length = (y.toNat : Int) := by unfold bt; simp [List.getD]
theorem bt_app_lt (a b : List UInt8) (i : Nat) (h : i < a.length) : bt (a ++ b) i = bt a i := by
  unfold bt; simp [List.getD, List.getElem?_append_left h]

/-- A front of a scalar's bytes, and a byte that goes on none. -/
theorem front_nx (k : Int) (hk : isScalar k) (h128 : 128 ≤ k) (c : Nat) (hc : 1 ≤ c) (hc2 : c < (Lib.encodeRune k).length) (y : UInt8) (hy : (y.toNat : Int) < 128) :
    nx ((Lib.encodeRune k).take c ++ [y]) = (65533, c) := by
  have hlen : ((Lib.encodeRune k).take c).length = c := by rw [List.length_take]; omega
  have hb : ∀ i, i < c → bt ((Lib.encodeRune k).take c ++ [y]) i = bt (Lib.encodeRune k) i := fun i hi => by
    rw [bt_app_lt _ _ _ (by omega)]
    unfold bt
    simp [List.getD, hi]
  have hy' : bt ((Lib.encodeRune k).take c ++ [y]) c = (y.toNat : Int) := by have := bt_app ((Lib.encodeRune k).take c) y; rwa [hlen] at this
  have hl : ((Lib.encodeRune k).take c ++ [y]).length = c + 1 := by rw [List.length_append, hlen]; rfl
  have hfull := nx_enc k []
  rw [List.append_nil, fix_scalar k hk] at hfull
  rw [enc_length] at hc2 hfull
  have hn := nx_cases ((Lib.encodeRune k).take c ++ [y])
  have hf := nx_cases (Lib.encodeRune k)
  rw [hfull] at hf
  have hel := enc_length k
  generalize (Lib.encodeRune k).take c ++ [y] = l at *
  generalize Lib.encodeRune k = f at *
  have hc4 : (Lib.encodeRuneZ k).length ≤ 4 := (Lib.encodeRuneZ_length k).2
  generalize (Lib.encodeRuneZ k).length = m at *
  have h0 := hb 0 (by omega)
  simp only [sec_cases, con_iff, Prod.mk.injEq] at hn hf
  rcases (show c = 1 ∨ c = 2 ∨ c = 3 by omega) with rfl | rfl | rfl
  · clear hb
    rcases hn with ⟨_, e⟩ | ⟨_, e⟩ | ⟨_, _, _, e⟩ | ⟨_, _, _, e⟩ | ⟨_, _, _, _, e⟩ | ⟨_, _, _, _, e⟩ | ⟨_, _, _, _, _, e⟩ | ⟨_, _, _, _, _, e⟩ <;> first | exact e | (exfalso; omega)
  · have h1 := hb 1 (by omega)
    clear hb
    rcases hn with ⟨_, e⟩ | ⟨_, e⟩ | ⟨_, _, _, e⟩ | ⟨_, _, _, e⟩ | ⟨_, _, _, _, e⟩ | ⟨_, _, _, _, e⟩ | ⟨_, _, _, _, _, e⟩ | ⟨_, _, _, _, _, e⟩ <;> first | exact e | (exfalso; omega)
  · have h1 := hb 1 (by omega); have h2 := hb 2 (by omega)
    clear hb
    rcases hn with ⟨_, e⟩ | ⟨_, e⟩ | ⟨_, _, _, e⟩ | ⟨_, _, _, e⟩ | ⟨_, _, _, _, e⟩ | ⟨_, _, _, _, e⟩ | ⟨_, _, _, _, _, e⟩ | ⟨_, _, _, _, _, e⟩ <;> first | exact e | (exfalso; omega)

theorem front_dec (k : Int) (hk : isScalar k) (h128 : 128 ≤ k) (c : Nat) (hc : 1 ≤ c) (hc2 : c < (Lib.encodeRune k).length) (y : UInt8) (hy : (y.toNat : Int) < 128) :
    scs ((Lib.encodeRune k).take c ++ [y]) = [65533, (y.toNat : Int)] ∧ ofs 0 ((Lib.encodeRune k).take c ++ [y]) = [0, (c : Int)] := by
  have hlen : ((Lib.encodeRune k).take c).length = c := by rw [List.length_take]; omega
  have hne : (Lib.encodeRune k).take c ++ [y] ≠ [] := by simp
  have hnx := front_nx k hk h128 c hc hc2 y hy
  have hdrop : ((Lib.encodeRune k).take c ++ [y]).drop c = [y] := by
    have : ((Lib.encodeRune k).take c ++ [y]).drop ((Lib.encodeRune k).take c).length = [y] := List.drop_left
    rwa [hlen] at this
  have hn1 : ([y] : List UInt8) ≠ [] := by simp
  constructor
  · rw [scs_cons _ hne, hnx, hdrop, scs_cons _ hn1, nx_low y hy]; rfl
  · rw [ofs_cons _ _ hne, hnx, hdrop, ofs_cons _ _ hn1, nx_low y hy]; simp [ofs_nil]

end Go.Proofs.Ytcdenblejfmkaaa
