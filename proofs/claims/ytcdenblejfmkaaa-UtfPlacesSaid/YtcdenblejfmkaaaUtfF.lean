/- Contract of utf.Encode: numbers, written as UTF-8; of what is no scalar FFFD. -/
import Derived.Test.YtcdenblejfmkaaaUtfE
namespace Go.Proofs.Ytcdenblejfmkaaa
open Go.RowKit Go.Proofs

/-- Numbers as UTF-8; of what is no scalar FFFD. -/
def enc (l : List Int) : List UInt8 := l.flatMap Lib.encodeRune
theorem enc_snoc (l : List Int) (n : Int) : enc (l ++ [n]) = enc l ++ Lib.encodeRune n := by simp [enc]
theorem enc_len (l : List Int) : (enc l).length ≤ 4 * l.length := by
  induction l with
  | nil => simp [enc]
  | cons x l ih =>
    have h := Lib.runeCells_le x
    rw [Lib.runeCells_length] at h
    simp only [enc, List.flatMap_cons, List.length_append, List.length_cons] at *
    omega
theorem take_snoc (l : List Int) (k : Nat) (h : k < l.length) : l.take (k + 1) = l.take k ++ [l.getD k 0] := by
  rw [List.take_succ_eq_append_getElem h]; simp [h]
theorem enc_take (l : List Int) (k : Nat) (h : k < l.length) : enc (l.take (k + 1)) = enc (l.take k) ++ Lib.encodeRune (l.getD k 0) := by
  rw [take_snoc l k h, enc_snoc]
theorem enc_bad (n : Int) (h : scB n = false) : Lib.encodeRune n = Lib.encodeRune 65533 := by
  have hb : Lib.encodeRuneZ n = [239, 191, 189] := Lib.encodeRuneZ_bad (by have := scB_cases n; rw [h] at this; simp at this; omega)
  unfold Lib.encodeRune
  rw [hb]; rfl

set_option maxHeartbeats 1000000 in
theorem encode_any (l : List Int) (len cap b off : Nat) (w : World) (hl : l.length = len) (hm : len ≤ 1000000) (hb : b < w.heap.size)
    (hc : ∀ i, i < len → w.cell? ⟨b, off + i, none⟩ = some (.int .i64 (l.getD i 0))) :
    Calls Try.prog 18 #[.slice (some ⟨b, off, none⟩) len cap] w fun e w' => e = .returned (.string ⟨(enc l).toArray⟩) ∧ Below w.heap.size w w' := by
  have HL := Lib.hid hl; clear hl
  have HC := Lib.hid hc; clear hc
  go_enter Try.func18, Try.ntmps18
  go_wp2_with fail
  go_loopw [8] (fun i wr => ∃ k : Nat, k ≤ len ∧ i = .int .i64 k ∧ Bld w.heap.size w.heap.size (Lib.byteCells (enc (l.take k))) wr ∧ Below w.heap.size w wr) (fun i _ => len - (intOf i).toNat)
  case atStart => exact ⟨0, Nat.zero_le _, rfl, Lib.IsBuilderF.of (Lib.fresh_isBuilder 44 5 w), (Below.refl _ w).alloc (Nat.le_refl _) _⟩
  case round =>
    obtain ⟨k, hk, rfl, hB, hbw⟩ := hrel
    by_cases hlt : k < len
    · have hcell : wr.cell? ⟨b, off + k, none⟩ = some (.int .i64 (l.getD k 0)) := by rw [(bcell hbw).1 _ _ hb]; exact HC.out k hlt
      have hs := enc_take l k (by rw [HL.out]; exact hlt)
      have hlen := enc_len (l.take k)
      rw [List.length_take] at hlen
      have hlen2 : (enc (l.take k)).length ≤ 4000000 := by omega
      clear hlen
      have k0 : (0 : Int) ≤ (k : Int) := Int.natCast_nonneg _
      have k1 : (k : Int) < (len : Int) := by omega
      have HS := Lib.hid hs; have HB := Lib.hid hB; have HBW := Lib.hid hbw; clear hs hB hbw
      generalize l.getD k 0 = x at *
      cases hsc : scB x
      · have hbad := enc_bad x hsc
        have HBAD := Lib.hid hbad; have HSC := Lib.hid hsc; clear hbad hsc
        go_wp2_with fail
        refine (scalar_any x _).mono ?_; rintro e w' ⟨rfl, rfl⟩
        rw [HSC.out]
        go_wp2_with fail
        refine (writeRune_any w.heap.size w.heap.size _ 65533 (by omega) (by omega) _ HB.out (by rw [Lib.byteCells_length]; omega) HBW.out.size).mono ?_
        rintro e w2 ⟨rfl, hb2, hbw2⟩
        rw [← Lib.byteCells_encodeRune, ← Lib.byteCells_append, ← HBAD.out, ← HS.out] at hb2
        have HB2 := Lib.hid hb2; have HBW2 := Lib.hid (HBW.out.trans hbw2); clear hb2 hbw2
        go_wp2_with fail
        exact ⟨⟨k + 1, by omega, by go_num, HB2.out, HBW2.out⟩, by simp [intOf]; omega⟩
      · have hr : 0 ≤ x ∧ x ≤ 1114111 := by have := scB_cases x; rw [hsc] at this; simp at this; omega
        have HSC := Lib.hid hsc; clear hsc
        obtain ⟨hr0, hr1⟩ := hr
        go_wp2_with fail
        refine (scalar_any x _).mono ?_; rintro e w' ⟨rfl, rfl⟩
        rw [HSC.out]
        go_wp2_with fail
        refine (writeRune_any w.heap.size w.heap.size _ x (by omega) (by omega) _ HB.out (by rw [Lib.byteCells_length]; omega) HBW.out.size).mono ?_
        rintro e w2 ⟨rfl, hb2, hbw2⟩
        rw [← Lib.byteCells_encodeRune, ← Lib.byteCells_append, ← HS.out] at hb2
        have HB2 := Lib.hid hb2; have HBW2 := Lib.hid (HBW.out.trans hbw2); clear hb2 hbw2
        go_wp2_with fail
        exact ⟨⟨k + 1, by omega, by go_num, HB2.out, HBW2.out⟩, by simp [intOf]; omega⟩
    · have HB := Lib.hid hB; have HBW := Lib.hid hbw; clear hB hbw
      have he : l.take k = l := List.take_of_length_le (by rw [HL.out]; omega)
      have HE := Lib.hid he; clear he
      go_wp2_with fail
      refine (Try.Builder_String_any_k w.heap.size w.heap.size _ _ HB.out HBW.out.size).mono ?_
      rintro e w2 ⟨rfl, _, hbw2, _⟩
      go_wp2_with fail
      go_ret
      exact ⟨by rw [HE.out]; rfl, HBW.out.trans hbw2⟩

theorem encode_nil (w : World) :
    Calls Try.prog 18 #[.slice none 0 0] w fun e w' => e = .returned (.string ⟨(enc []).toArray⟩) ∧ Below w.heap.size w w' := by
  go_enter Try.func18, Try.ntmps18
  go_wp2_with fail
  refine wp_loop_rounds 1 ?_; rw [rounds_succ]
  go_wp2_with fail
  refine (Try.Builder_String_any_k w.heap.size w.heap.size [] _ (Lib.IsBuilderF.of (Lib.fresh_isBuilder 44 5 w)) (by simp)).mono ?_
  rintro e w2 ⟨rfl, _, hbw2, _⟩
  go_wp2_with fail
  go_ret
  exact ⟨rfl, ((Below.refl _ w).alloc (Nat.le_refl _) _).trans hbw2⟩

end Go.Proofs.Ytcdenblejfmkaaa
