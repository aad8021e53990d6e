/- Contracts of the document's own one and Encode. -/
import Derived.Test.YtcdenblejfmkaaaUtfF
import Derived.Test.YtcdenblejfmkaaaBits
import Derived.Laws.BytesArg
namespace Go.Proofs.Ytcdenblejfmkaaa
open Go.RowKit Go.Proofs

theorem enc_str (r : Int) (xs : List Int) (h : Lib.encodeRuneZ r = xs) : strOfNums xs = ⟨(Lib.encodeRune r).toArray⟩ := by subst h; rfl

set_option maxHeartbeats 1000000 in
theorem one_w1 (r : Int) (w : World) (h0 : 0 ≤ r) (h1 : r ≤ 127) :
    Calls Try.prog 26 #[.int .i64 r] w fun e w' => e = .returned (.string ⟨(Lib.encodeRune r).toArray⟩) ∧ Below w.heap.size w w' := by
  have hsc : scB r = true := by rw [scB_iff]; unfold isScalar; omega
  have hz : Lib.encodeRuneZ r = [r] := Lib.encodeRuneZ_one h0 h1
  have HSC := Lib.hid hsc; have HZ := Lib.hid hz; clear hsc hz
  go_enter Try.func26, Try.ntmps26
  go_wp2_with fail
  refine (refscalar_any r _).mono ?_; rintro e w' ⟨rfl, rfl⟩
  rw [HSC.out]
  go_wp2_with fail
  rw [run_convert_bytes_arg _ 23 5 Try.underlying23 Try.underlying5 w.heap.size 0 1 1 [r] rfl (by intro i hi; rcases (show i = 0 by omega) with rfl <;> simp [go_sem]) 9 Try.underlying9]
  simp only [Result.andThen]
  rw [Oper.upon_value]
  go_wp2_with fail
  go_ret
  exact ⟨by rw [← enc_str r _ HZ.out]; rfl, (Below.refl _ _).alloc (Nat.le_refl _) _⟩

set_option maxHeartbeats 1000000 in
theorem one_w2 (r : Int) (w : World) (h0 : 128 ≤ r) (h1 : r ≤ 2047) :
    Calls Try.prog 26 #[.int .i64 r] w fun e w' => e = .returned (.string ⟨(Lib.encodeRune r).toArray⟩) ∧ Below w.heap.size w w' := by
  have hsc : scB r = true := by rw [scB_iff]; unfold isScalar; omega
  have hz : Lib.encodeRuneZ r = [192 + r / 64, 128 + r % 64] := Lib.encodeRuneZ_two h0 h1
  have o0 := i64_or192 (r / 64) (by omega) (by omega)
  have a1 := i64_and63 (r) (by omega) (by omega)
  have o1 := i64_or128 (r % 64) (by omega) (by omega)
  have z0 : 0 ≤ 192 + r / 64 ∧ 192 + r / 64 ≤ 255 := by omega
  have z1 : 0 ≤ 128 + r % 64 ∧ 128 + r % 64 ≤ 255 := by omega
  have q0 : 0 ≤ r / 64 := by omega
  have HSC := Lib.hid hsc; have HZ := Lib.hid hz; clear hsc hz
  go_enter Try.func26, Try.ntmps26
  go_wp2_with fail
  refine (refscalar_any r _).mono ?_; rintro e w' ⟨rfl, rfl⟩
  rw [HSC.out]
  go_wp2_with fail
  rw [run_convert_bytes_arg _ 23 5 Try.underlying23 Try.underlying5 w.heap.size 0 2 2 [192 + r / 64, 128 + r % 64] rfl (by intro i hi; rcases (show i = 0 ∨ i = 1 by omega) with rfl | rfl <;> simp [go_sem]) 9 Try.underlying9]
  simp only [Result.andThen]
  rw [Oper.upon_value]
  go_wp2_with fail
  go_ret
  exact ⟨by rw [← enc_str r _ HZ.out]; rfl, (Below.refl _ _).alloc (Nat.le_refl _) _⟩

set_option maxHeartbeats 1000000 in
theorem one_w3 (r : Int) (w : World) (h0 : 2048 ≤ r) (h1 : r ≤ 65535) (hx : r < 55296 ∨ 57343 < r) :
    Calls Try.prog 26 #[.int .i64 r] w fun e w' => e = .returned (.string ⟨(Lib.encodeRune r).toArray⟩) ∧ Below w.heap.size w w' := by
  have hsc : scB r = true := by rw [scB_iff]; unfold isScalar; omega
  have hz : Lib.encodeRuneZ r = [224 + r / 4096, 128 + r / 64 % 64, 128 + r % 64] := Lib.encodeRuneZ_three (by omega)
  have o0 := i64_or224 (r / 4096) (by omega) (by omega)
  have a1 := i64_and63 (r / 64) (by omega) (by omega)
  have o1 := i64_or128 (r / 64 % 64) (by omega) (by omega)
  have a2 := i64_and63 (r) (by omega) (by omega)
  have o2 := i64_or128 (r % 64) (by omega) (by omega)
  have z0 : 0 ≤ 224 + r / 4096 ∧ 224 + r / 4096 ≤ 255 := by omega
  have z1 : 0 ≤ 128 + r / 64 % 64 ∧ 128 + r / 64 % 64 ≤ 255 := by omega
  have z2 : 0 ≤ 128 + r % 64 ∧ 128 + r % 64 ≤ 255 := by omega
  have q0 : 0 ≤ r / 4096 := by omega
  have q1 : 0 ≤ r / 64 := by omega
  have HSC := Lib.hid hsc; have HZ := Lib.hid hz; clear hsc hz hx
  go_enter Try.func26, Try.ntmps26
  go_wp2_with fail
  refine (refscalar_any r _).mono ?_; rintro e w' ⟨rfl, rfl⟩
  rw [HSC.out]
  go_wp2_with fail
  rw [run_convert_bytes_arg _ 23 5 Try.underlying23 Try.underlying5 w.heap.size 0 3 3 [224 + r / 4096, 128 + r / 64 % 64, 128 + r % 64] rfl (by intro i hi; rcases (show i = 0 ∨ i = 1 ∨ i = 2 by omega) with rfl | rfl | rfl <;> simp [go_sem]) 9 Try.underlying9]
  simp only [Result.andThen]
  rw [Oper.upon_value]
  go_wp2_with fail
  go_ret
  exact ⟨by rw [← enc_str r _ HZ.out]; rfl, (Below.refl _ _).alloc (Nat.le_refl _) _⟩

set_option maxHeartbeats 1000000 in
theorem one_w4 (r : Int) (w : World) (h0 : 65536 ≤ r) (h1 : r ≤ 1114111) :
    Calls Try.prog 26 #[.int .i64 r] w fun e w' => e = .returned (.string ⟨(Lib.encodeRune r).toArray⟩) ∧ Below w.heap.size w w' := by
  have hsc : scB r = true := by rw [scB_iff]; unfold isScalar; omega
  have hz : Lib.encodeRuneZ r = [240 + r / 262144, 128 + r / 4096 % 64, 128 + r / 64 % 64, 128 + r % 64] := Lib.encodeRuneZ_four h0 h1
  have o0 := i64_or240 (r / 262144) (by omega) (by omega)
  have a1 := i64_and63 (r / 4096) (by omega) (by omega)
  have o1 := i64_or128 (r / 4096 % 64) (by omega) (by omega)
  have a2 := i64_and63 (r / 64) (by omega) (by omega)
  have o2 := i64_or128 (r / 64 % 64) (by omega) (by omega)
  have a3 := i64_and63 (r) (by omega) (by omega)
  have o3 := i64_or128 (r % 64) (by omega) (by omega)
  have z0 : 0 ≤ 240 + r / 262144 ∧ 240 + r / 262144 ≤ 255 := by omega
  have z1 : 0 ≤ 128 + r / 4096 % 64 ∧ 128 + r / 4096 % 64 ≤ 255 := by omega
  have z2 : 0 ≤ 128 + r / 64 % 64 ∧ 128 + r / 64 % 64 ≤ 255 := by omega
  have z3 : 0 ≤ 128 + r % 64 ∧ 128 + r % 64 ≤ 255 := by omega
  have q0 : 0 ≤ r / 262144 := by omega
  have q1 : 0 ≤ r / 4096 := by omega
  have q2 : 0 ≤ r / 64 := by omega
  have HSC := Lib.hid hsc; have HZ := Lib.hid hz; clear hsc hz
  go_enter Try.func26, Try.ntmps26
  go_wp2_with fail
  refine (refscalar_any r _).mono ?_; rintro e w' ⟨rfl, rfl⟩
  rw [HSC.out]
  go_wp2_with fail
  rw [run_convert_bytes_arg _ 23 5 Try.underlying23 Try.underlying5 w.heap.size 0 4 4 [240 + r / 262144, 128 + r / 4096 % 64, 128 + r / 64 % 64, 128 + r % 64] rfl (by intro i hi; rcases (show i = 0 ∨ i = 1 ∨ i = 2 ∨ i = 3 by omega) with rfl | rfl | rfl | rfl <;> simp [go_sem]) 9 Try.underlying9]
  simp only [Result.andThen]
  rw [Oper.upon_value]
  go_wp2_with fail
  go_ret
  exact ⟨by rw [← enc_str r _ HZ.out]; rfl, (Below.refl _ _).alloc (Nat.le_refl _) _⟩

theorem one_bad (r : Int) (w : World) (h : scB r = false) :
    Calls Try.prog 26 #[.int .i64 r] w fun e w' => e = .returned (.string ⟨(Lib.encodeRune r).toArray⟩) ∧ Below w.heap.size w w' := by
  have hb := enc_bad r h
  have HB := Lib.hid hb; have HSC := Lib.hid h; clear hb h
  go_enter Try.func26, Try.ntmps26
  go_wp2_with fail
  refine (refscalar_any r _).mono ?_; rintro e w' ⟨rfl, rfl⟩
  rw [HSC.out]
  go_wp2_with fail
  refine (one_w3 65533 _ (by omega) (by omega) (by omega)).mono ?_
  rintro e w1 ⟨rfl, hb1⟩
  go_wp2_with fail
  go_ret
  exact ⟨by rw [HB.out]; rfl, hb1⟩

theorem one_any (r : Int) (w : World) :
    Calls Try.prog 26 #[.int .i64 r] w fun e w' => e = .returned (.string ⟨(Lib.encodeRune r).toArray⟩) ∧ Below w.heap.size w w' := by
  rcases scB_cases r with ⟨h1, h⟩ | ⟨h1, h2, h⟩ | ⟨h1, h2, h⟩ | ⟨h1, h2, h⟩ | ⟨h1, h⟩
  · exact one_bad r w h
  · by_cases g1 : r ≤ 127
    · exact one_w1 r w h1 g1
    · by_cases g2 : r ≤ 2047
      · exact one_w2 r w (by omega) g2
      · exact one_w3 r w (by omega) (by omega) (by omega)
  · exact one_bad r w h
  · by_cases g1 : r ≤ 65535
    · exact one_w3 r w (by omega) g1 (by omega)
    · exact one_w4 r w (by omega) h2
  · exact one_bad r w h

theorem str_append (a b : List UInt8) : ((⟨a.toArray⟩ : ByteArray) ++ ⟨b.toArray⟩) = ⟨(a ++ b).toArray⟩ := by
  apply ByteArray.ext
  rw [ByteArray.data_append]
  simp

set_option maxHeartbeats 1000000 in
theorem refencode_any (l : List Int) (len cap b off : Nat) (w : World) (hl : l.length = len) (hm : len ≤ 1000000) (hb : b < w.heap.size)
    (hc : ∀ i, i < len → w.cell? ⟨b, off + i, none⟩ = some (.int .i64 (l.getD i 0))) :
    Calls Try.prog 19 #[.slice (some ⟨b, off, none⟩) len cap] w fun e w' => e = .returned (.string ⟨(enc l).toArray⟩) ∧ Below w.heap.size w w' := by
  have HL := Lib.hid hl; clear hl
  have HC := Lib.hid hc; clear hc
  go_enter Try.func19, Try.ntmps19
  go_wp2_with fail
  go_loopw [3, 4] (fun s i wr => ∃ k : Nat, k ≤ len ∧ i = .int .i64 k ∧ s = .string ⟨(enc (l.take k)).toArray⟩ ∧ Below w.heap.size w wr) (fun _ i _ => len - (intOf i).toNat)
  case atStart => exact ⟨0, Nat.zero_le _, rfl, rfl, Below.refl _ w⟩
  case round =>
    obtain ⟨k, hk, rfl, rfl, hbw⟩ := hrel
    by_cases hlt : k < len
    · have hcell : wr.cell? ⟨b, off + k, none⟩ = some (.int .i64 (l.getD k 0)) := by rw [(bcell hbw).1 _ _ hb]; exact HC.out k hlt
      have hs := enc_take l k (by rw [HL.out]; exact hlt)
      have hlen := enc_len (l.take k)
      rw [List.length_take] at hlen
      have hlen2 : (enc (l.take k)).length ≤ 4000000 := by omega
      clear hlen
      have k0 : (0 : Int) ≤ (k : Int) := Int.natCast_nonneg _
      have k1 : (k : Int) < (len : Int) := by omega
      have HS := Lib.hid hs; have HBW := Lib.hid hbw; clear hs hbw
      generalize l.getD k 0 = x at *
      have hr4 : (Lib.encodeRune x).length ≤ 4 := by have := Lib.runeCells_le x; rw [Lib.runeCells_length] at this; exact this.2
      go_wp2_with fail
      refine (one_any x _).mono ?_; rintro e w2 ⟨rfl, hb2⟩
      have HBW2 := Lib.hid (HBW.out.trans (hb2.mono HBW.out.size)); clear hb2
      go_wp2_with fail
      refine ⟨⟨k + 1, by omega, by go_num, by rw [HS.out, ← str_append]; try rfl, HBW2.out⟩, by simp [intOf]; omega⟩
    · have HBW := Lib.hid hbw; clear hbw
      have he : l.take k = l := List.take_of_length_le (by rw [HL.out]; omega)
      have HE := Lib.hid he; clear he
      go_wp2_with fail
      go_ret
      exact ⟨by rw [HE.out]; rfl, HBW.out⟩

theorem refencode_nil (w : World) :
    Calls Try.prog 19 #[.slice none 0 0] w fun e w' => e = .returned (.string ⟨(enc []).toArray⟩) ∧ Below w.heap.size w w' := by
  go_enter Try.func19, Try.ntmps19
  go_wp2_with fail
  refine wp_loop_rounds 1 ?_; rw [rounds_succ]
  go_wp2_with fail
  go_ret
  exact ⟨rfl, Below.refl _ _⟩

end Go.Proofs.Ytcdenblejfmkaaa
