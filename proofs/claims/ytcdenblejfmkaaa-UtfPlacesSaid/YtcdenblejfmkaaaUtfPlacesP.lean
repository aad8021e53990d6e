/- Plain mathematics: the places of scalars in a row of bytes; a scalar that is told has the bytes that encode it. -/
import Derived.Test.YtcdenblejfmkaaaUtfU
namespace Go.Proofs.Ytcdenblejfmkaaa
open Go.RowKit Go.Proofs

theorem getD_cons_zero (x : Int) (l : List Int) : (x :: l).getD 0 0 = x := rfl
theorem getD_cons_succ (x : Int) (l : List Int) (i : Nat) : (x :: l).getD (i + 1) 0 = l.getD i 0 := by simp [List.getD]

/-- The i-th scalar, from place k on: where it begins, and where the next one does. -/
theorem cut_at (L : List UInt8) : ∀ (i k : Nat), k ≤ L.length → i < (scs (L.drop k)).length →
    ∃ p, p < L.length ∧ (ofs k (L.drop k) ++ [(L.length : Int)]).getD i 0 = (p : Int) ∧ (scs (L.drop k)).getD i 0 = (nx (L.drop p)).1 ∧ (ofs k (L.drop k) ++ [(L.length : Int)]).getD (i + 1) 0 = ((p + (nx (L.drop p)).2 : Nat) : Int) := by
  intro i
  induction i with
  | zero =>
    intro k hk h
    have hlt : k < L.length := by
      rcases Nat.lt_or_ge k L.length with h' | h'
      · exact h'
      · rw [List.drop_of_length_le h', scs_nil] at h; simp at h
    have hn := nx_at L k hlt
    refine ⟨k, hlt, ?_, ?_, ?_⟩
    · rw [ofs_at L k hlt]; rfl
    · rw [scs_at L k hlt]; rfl
    · rw [ofs_at L k hlt, List.cons_append, getD_cons_succ]
      rcases Nat.lt_or_ge (k + (nx (L.drop k)).2) L.length with h' | h'
      · rw [ofs_at L _ h']; rfl
      · rw [List.drop_of_length_le h', ofs_nil]
        have : k + (nx (L.drop k)).2 = L.length := by omega
        rw [this]; rfl
  | succ i ih =>
    intro k hk h
    have hlt : k < L.length := by
      rcases Nat.lt_or_ge k L.length with h' | h'
      · exact h'
      · rw [List.drop_of_length_le h', scs_nil] at h; simp at h
    have hn := nx_at L k hlt
    rw [scs_at L k hlt, List.length_cons] at h
    obtain ⟨p, h1, h2, h3, h4⟩ := ih (k + (nx (L.drop k)).2) hn.2.2 (by omega)
    refine ⟨p, h1, ?_, ?_, ?_⟩
    · rw [ofs_at L k hlt, List.cons_append, getD_cons_succ]; exact h2
    · rw [scs_at L k hlt, getD_cons_succ]; exact h3
    · rw [ofs_at L k hlt, List.cons_append, getD_cons_succ]; exact h4
theorem cut_first (L : List UInt8) : (ofs 0 L ++ [(L.length : Int)]).getD 0 0 = 0 := by
  by_cases h : L = []
  · subst h; rfl
  · rw [ofs_cons 0 L h]; rfl
theorem cut_last (L : List UInt8) : (ofs 0 L ++ [(L.length : Int)]).getD (scs L).length 0 = (L.length : Int) := by
  rw [← ofs_length 0 L]
  simp [List.getD]

theorem list_of_bt : ∀ (zs : List Int) (l : List UInt8), zs.length ≤ l.length → (∀ i, i < zs.length → zs.getD i 0 = bt l i) → zs.map (fun y => y.toNat.toUInt8) = l.take zs.length := by
  intro zs
  induction zs with
  | nil => intro l _ _; simp
  | cons z zs ih =>
    intro l hl h
    cases l with
    | nil => simp at hl
    | cons a l =>
      have h0 := h 0 (by simp)
      have hz : z.toNat.toUInt8 = a := by
        have e : z = ((a.toNat : Nat) : Int) := h0
        rw [e, Int.toNat_natCast]
        simp
      rw [List.map_cons, List.length_cons, List.take_succ_cons, hz, ih l (by simpa using hl) (fun i hi => ?_)]
      have := h (i + 1) (by simpa using hi)
      rw [getD_cons_succ, bt_succ] at this
      exact this

/-- A scalar that is told, but FFFD, has the bytes that encode it. -/
theorem enc_nx (l : List UInt8) (hl : l ≠ []) (h : (nx l).1 ≠ 65533) : Lib.encodeRune (nx l).1 = l.take (nx l).2 := by
  have hle := nx_le l hl
  have h0 := bt_lt l 0; have h1 := bt_lt l 1; have h2 := bt_lt l 2; have h3 := bt_lt l 3
  have key : ∀ zs : List Int, Lib.encodeRuneZ (nx l).1 = zs → zs.length = (nx l).2 → (∀ i, i < zs.length → zs.getD i 0 = bt l i) → Lib.encodeRune (nx l).1 = l.take (nx l).2 := by
    intro zs hz hn hb
    unfold Lib.encodeRune
    rw [hz, ← hn]
    exact list_of_bt zs l (by omega) hb
  have hn := nx_cases l
  simp only [sec_cases, con_iff] at hn
  rcases hn with ⟨g, e⟩ | ⟨g, e⟩ | ⟨g1, g2, hs, e⟩ | ⟨g1, g2, hs, e⟩ | ⟨g1, g2, hs, q2, e⟩ | ⟨g1, g2, hs, q2, e⟩ | ⟨g1, g2, hs, q2, q3, e⟩ | ⟨g1, g2, hs, q2, q3, e⟩ <;> rw [e] at h key ⊢
  · refine key [bt l 0] (Lib.encodeRuneZ_one (by omega) (by omega)) rfl fun i hi => ?_
    obtain rfl : i = 0 := by simpa using hi
    rfl
  · exact absurd rfl h
  · exact absurd rfl h
  · refine key _ (Lib.encodeRuneZ_two (by omega) (by omega)) rfl fun i hi => ?_
    rcases (show i = 0 ∨ i = 1 by simp at hi; omega) with rfl | rfl
    · show 192 + _ = _; omega
    · show 128 + _ = _; omega
  · exact absurd rfl h
  · refine key _ (Lib.encodeRuneZ_three (by omega)) rfl fun i hi => ?_
    rcases (show i = 0 ∨ i = 1 ∨ i = 2 by simp at hi; omega) with rfl | rfl | rfl
    · show 224 + _ = _; omega
    · show 128 + _ = _; omega
    · show 128 + _ = _; omega
  · exact absurd rfl h
  · refine key _ (Lib.encodeRuneZ_four (by omega) (by omega)) rfl fun i hi => ?_
    rcases (show i = 0 ∨ i = 1 ∨ i = 2 ∨ i = 3 by simp at hi; omega) with rfl | rfl | rfl | rfl
    · show 240 + _ = _; omega
    · show 128 + _ = _; omega
    · show 128 + _ = _; omega
    · show 128 + _ = _; omega

theorem extract_take (s : ByteArray) (p m : Nat) : s.extract p (p + m) = ⟨((s.data.toList.drop p).take m).toArray⟩ := by
  apply ByteArray.ext
  rw [ByteArray.data_extract]
  apply Array.toList_inj.1
  rw [Array.toList_extract, List.extract_eq_drop_take']
  simp [List.drop_take]

end Go.Proofs.Ytcdenblejfmkaaa
