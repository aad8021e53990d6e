/- Plain mathematics: what was encoded is decoded as it was; a scalar that is told has the bytes that encode it; fronts of a scalar. -/
import Derived.Test.YtcdenblejfmkaaaUtfQ
import Derived.Test.YtcdenblejfmkaaaUtfF
namespace Go.Proofs.Ytcdenblejfmkaaa
open Go.RowKit Go.Proofs

theorem bt_succ (a : UInt8) (l : List UInt8) (i : Nat) : bt (a :: l) (i + 1) = bt l i := by unfold bt; simp [List.getD]
theorem bt_head (x : Int) (l : List UInt8) (h0 : 0 ≤ x) (h1 : x < 256) : bt (x.toNat.toUInt8 :: l) 0 = x := by
  unfold bt
  simp [List.getD]
  omega

/-- What Encode writes of a number: the number, or FFFD. -/
def fix (x : Int) : Int := if isScalar x then x else 65533
theorem fix_scalar (x : Int) (h : isScalar x) : fix x = x := if_pos h

theorem enc_form (x : Int) (t : List UInt8) : Lib.encodeRune x ++ t = (Lib.encodeRuneZ x).map (fun y => y.toNat.toUInt8) ++ t := rfl
theorem enc_length (x : Int) : (Lib.encodeRune x).length = (Lib.encodeRuneZ x).length := by unfold Lib.encodeRune; simp

theorem nx_enc (x : Int) (t : List UInt8) : nx (Lib.encodeRune x ++ t) = (fix x, (Lib.encodeRune x).length) := by
  have key : ∀ (zs : List Int), Lib.encodeRuneZ x = zs → (∀ l : List UInt8, l = zs.map (fun y => y.toNat.toUInt8) ++ t → nx l = (fix x, zs.length)) → nx (Lib.encodeRune x ++ t) = (fix x, (Lib.encodeRune x).length) := by
    intro zs hz h
    rw [enc_length, hz]
    exact h _ (by rw [enc_form, hz])
  by_cases hs : isScalar x
  · rw [fix_scalar x hs] at *
    have hs' := hs
    unfold isScalar at hs'
    by_cases g1 : x ≤ 127
    · refine key [x] (Lib.encodeRuneZ_one (by omega) g1) fun l hl => ?_
      have b0 : bt l 0 = x := by rw [hl]; exact bt_head _ _ (by omega) (by omega)
      have hn := nx_cases l
      rw [b0] at hn
      rcases hn with ⟨_, e⟩ | ⟨_, e⟩ | ⟨_, _, _, e⟩ | ⟨_, _, _, e⟩ | ⟨_, _, _, _, e⟩ | ⟨_, _, _, _, e⟩ | ⟨_, _, _, _, _, e⟩ | ⟨_, _, _, _, _, e⟩ <;> first | (exfalso; omega) | exact e
    · by_cases g2 : x ≤ 2047
      · refine key [192 + x / 64, 128 + x % 64] (Lib.encodeRuneZ_two (by omega) g2) fun l hl => ?_
        have b0 : bt l 0 = 192 + x / 64 := by rw [hl]; exact bt_head _ _ (by omega) (by omega)
        have b1 : bt l 1 = 128 + x % 64 := by rw [hl]; exact (bt_succ _ _ 0).trans (bt_head _ _ (by omega) (by omega))
        have ll : 1 < l.length := by rw [hl]; simp
        have hn := nx_cases l
        simp only [sec_cases, con_iff, b0, b1] at hn
        rcases hn with ⟨_, e⟩ | ⟨_, e⟩ | ⟨_, _, _, e⟩ | ⟨_, _, _, e⟩ | ⟨_, _, _, _, e⟩ | ⟨_, _, _, _, e⟩ | ⟨_, _, _, _, _, e⟩ | ⟨_, _, _, _, _, e⟩ <;> first | (exfalso; omega) | (rw [e]; simp only [Prod.mk.injEq, List.length_cons, List.length_nil, and_true]; omega)
      · by_cases g3 : x ≤ 65535
        · refine key [224 + x / 4096, 128 + x / 64 % 64, 128 + x % 64] (Lib.encodeRuneZ_three (by omega)) fun l hl => ?_
          have b0 : bt l 0 = 224 + x / 4096 := by rw [hl]; exact bt_head _ _ (by omega) (by omega)
          have b1 : bt l 1 = 128 + x / 64 % 64 := by rw [hl]; exact (bt_succ _ _ 0).trans (bt_head _ _ (by omega) (by omega))
          have b2 : bt l 2 = 128 + x % 64 := by rw [hl]; exact (bt_succ _ _ 1).trans ((bt_succ _ _ 0).trans (bt_head _ _ (by omega) (by omega)))
          have ll : 2 < l.length := by rw [hl]; simp
          have hn := nx_cases l
          simp only [sec_cases, con_iff, b0, b1, b2] at hn
          rcases hn with ⟨_, e⟩ | ⟨_, e⟩ | ⟨_, _, _, e⟩ | ⟨_, _, _, e⟩ | ⟨_, _, _, _, e⟩ | ⟨_, _, _, _, e⟩ | ⟨_, _, _, _, _, e⟩ | ⟨_, _, _, _, _, e⟩ <;> first | (exfalso; omega) | (rw [e]; simp only [Prod.mk.injEq, List.length_cons, List.length_nil, and_true]; omega)
        · refine key [240 + x / 262144, 128 + x / 4096 % 64, 128 + x / 64 % 64, 128 + x % 64] (Lib.encodeRuneZ_four (by omega) (by omega)) fun l hl => ?_
          have b0 : bt l 0 = 240 + x / 262144 := by rw [hl]; exact bt_head _ _ (by omega) (by omega)
          have b1 : bt l 1 = 128 + x / 4096 % 64 := by rw [hl]; exact (bt_succ _ _ 0).trans (bt_head _ _ (by omega) (by omega))
          have b2 : bt l 2 = 128 + x / 64 % 64 := by rw [hl]; exact (bt_succ _ _ 1).trans ((bt_succ _ _ 0).trans (bt_head _ _ (by omega) (by omega)))
          have b3 : bt l 3 = 128 + x % 64 := by rw [hl]; exact (bt_succ _ _ 2).trans ((bt_succ _ _ 1).trans ((bt_succ _ _ 0).trans (bt_head _ _ (by omega) (by omega))))
          have ll : 3 < l.length := by rw [hl]; simp
          have hn := nx_cases l
          simp only [sec_cases, con_iff, b0, b1, b2, b3] at hn
          rcases hn with ⟨_, e⟩ | ⟨_, e⟩ | ⟨_, _, _, e⟩ | ⟨_, _, _, e⟩ | ⟨_, _, _, _, e⟩ | ⟨_, _, _, _, e⟩ | ⟨_, _, _, _, _, e⟩ | ⟨_, _, _, _, _, e⟩ <;> first | (exfalso; omega) | (rw [e]; simp only [Prod.mk.injEq, List.length_cons, List.length_nil, and_true]; omega)
  · have hf : fix x = 65533 := if_neg hs
    have hb : Lib.encodeRuneZ x = [239, 191, 189] := Lib.encodeRuneZ_bad (by unfold isScalar at hs; omega)
    refine key [239, 191, 189] hb fun l hl => ?_
    have b0 : bt l 0 = 239 := by rw [hl]; exact bt_head 239 _ (by omega) (by omega)
    have b1 : bt l 1 = 191 := by rw [hl]; exact (bt_succ _ _ 0).trans (bt_head 191 _ (by omega) (by omega))
    have b2 : bt l 2 = 189 := by rw [hl]; exact (bt_succ _ _ 1).trans ((bt_succ _ _ 0).trans (bt_head 189 _ (by omega) (by omega)))
    have ll : 2 < l.length := by rw [hl]; simp
    have hn := nx_cases l
    simp only [sec_cases, con_iff, b0, b1, b2] at hn
    rw [hf]
    rcases hn with ⟨_, e⟩ | ⟨_, e⟩ | ⟨_, _, _, e⟩ | ⟨_, _, _, e⟩ | ⟨_, _, _, _, e⟩ | ⟨_, _, _, _, e⟩ | ⟨_, _, _, _, _, e⟩ | ⟨_, _, _, _, _, e⟩ <;> first | (exfalso; omega) | (rw [e]; simp only [Prod.mk.injEq, List.length_cons, List.length_nil, and_true]; omega)

theorem enc_ne (x : Int) (t : List UInt8) : Lib.encodeRune x ++ t ≠ [] := by
  intro e
  have := congrArg List.length e
  have h := Lib.runeCells_le x
  rw [Lib.runeCells_length] at h
  rw [List.length_append, List.length_nil] at this
  omega
theorem enc_cons (x : Int) (l : List Int) : enc (x :: l) = Lib.encodeRune x ++ enc l := by simp [enc]
theorem scs_enc (l : List Int) (t : List UInt8) : scs (enc l ++ t) = l.map fix ++ scs t := by
  induction l with
  | nil => simp [enc]
  | cons x l ih =>
    rw [enc_cons, List.append_assoc, scs_cons _ (enc_ne x _), nx_enc, List.drop_left, ih]
    simp
theorem scs_enc_all (l : List Int) : scs (enc l) = l.map fix := by
  have := scs_enc l []
  rw [List.append_nil, scs_nil, List.append_nil] at this
  exact this
theorem map_fix (l : List Int) (h : ∀ x ∈ l, isScalar x) : l.map fix = l := by
  induction l with
  | nil => rfl
  | cons x l ih => rw [List.map_cons, fix_scalar x (h x List.mem_cons_self), ih (fun y hy => h y (List.mem_cons_of_mem _ hy))]

end Go.Proofs.Ytcdenblejfmkaaa
