/- The law UtfBack returns true, whatever the numbers. -/
import Derived.Test.YtcdenblejfmkaaaUtfV
namespace Go.Proofs.Ytcdenblejfmkaaa
open Go.RowKit Go.Proofs
set_option linter.unusedVariables false

/-- What the law text makes of a number: a scalar. -/
def bk (z : Int) : Int := if 55296 ≤ z % 1114112 ∧ z % 1114112 ≤ 57343 then z % 200 else z % 1114112
theorem bk_scalar (z : Int) : isScalar (bk z) := by unfold isScalar bk; split <;> omega
theorem bk_all (z : List Int) (k : Nat) : ∀ x ∈ mapped bk z k, isScalar x := by
  intro x hx
  unfold mapped at hx
  obtain ⟨y, _, rfl⟩ := List.mem_map.1 hx
  exact bk_scalar y

set_option maxHeartbeats 2000000 in
theorem back_walk (a0 : Option Addr) (len0 cap0 : Nat) (z0 : List Int) (a1 : Option Addr) (len1 cap1 : Nat) (z1 : List Int) (w : World) (w0 : IsRow .i64 w a0 len0 cap0 z0) (w1 : IsRow .i64 w a1 len1 cap1 z1) :
    Calls Try.prog 4 #[.slice a0 len0 cap0, .slice a1 len1 cap1] w fun e w' => e = .returned (.bool true) ∧ Below w.heap.size w w' := by
  have hle := w0.len_le
  have hle1 := w1.len_le
  have hcap : len1 ≤ cap1 ∧ cap1 ≤ 9223372036854775807 := by
    rcases w1 with ⟨_, h2, h3, _⟩ | ⟨x, _, h2, h3, _⟩
    · omega
    · unfold maxLen at h3; omega
  have HROW := Lib.hid w0; have HROW1 := Lib.hid w1; clear w0 w1
  go_enter Try.func4, Try.ntmps4
  go_wp2_with fail
  refine (known_any _).mono ?_
  rintro e w1 ⟨rfl, hb1⟩
  have HB1 := Lib.hid hb1; clear hb1
  go_wp2_with fail
  go_loopw [5, 6] (fun v i wr => ∃ k : Nat, k ≤ len0 ∧ k ≤ 40 ∧ i = .int .i64 k ∧ Own wr w.heap.size v k (mapped bk z0 k) ∧ Below w.heap.size w wr) (fun _ i _ => len0 - (intOf i).toNat)
  case atStart => exact ⟨0, Nat.zero_le _, by omega, rfl, Own.nil _ _, HB1.out⟩
  case round =>
    obtain ⟨k, hk, hk40, rfl, hv, hB⟩ := hrel
    have k0 : (0 : Int) ≤ (k : Int) := Int.natCast_nonneg _
    by_cases hgo : k < len0 ∧ k < 40
    · obtain ⟨hlt, h40⟩ := hgo
      obtain ⟨b, off, rfl, hbs, hc, hwf⟩ := HROW.out.at k hlt
      have hx : wr.cell? ⟨b, off + k, none⟩ = some (.int .i64 (z0.getD k 0)) := by rw [(bcell hB).1 _ _ hbs]; exact hc k hlt
      have WX := Lib.hid (hwf k hlt)
      have HCS := Lib.hid (mapped_succ bk z0 k (by omega))
      have HV := Lib.hid hv; have HB := Lib.hid hB; have hzz := hB.size
      clear hc hwf hv hB
      generalize z0.getD k 0 = x at *
      have k1 : (k : Int) < (len0 : Int) := by omega
      have x0 : 0 ≤ x % 1114112 := by omega
      have x1 : x % 1114112 < 1114112 := by omega
      have y0 : 0 ≤ x % 200 := by omega
      have y1 : x % 200 < 200 := by omega
      by_cases hs : 55296 ≤ x % 1114112 ∧ x % 1114112 ≤ 57343
      · have hbk : bk x = x % 200 := if_pos hs
        have HBK := Lib.hid hbk; clear hbk
        obtain ⟨s0, s1⟩ := hs
        go_wp2_with fail
        refine (within_any x 1114112 _ WX.out (by omega) (by omega)).mono ?_; rintro e w' ⟨rfl, rfl⟩
        go_wp2_with fail
        refine (within_any x 200 _ WX.out (by omega) (by omega)).mono ?_; rintro e w' ⟨rfl, rfl⟩
        rw [← HBK.out]
        go_wp2_with (at_builtin; refine wpList_push rfl (.tmp 38) (.tmp 40) rfl w.heap.size wr u5 k (mapped bk z0 k) (bk x) (by rfl) HV.out (by rfl) (by omega) hzz ?_
                     intro g1 c1 w2 hp1
                     have HP1 := Lib.hid hp1.own
                     have HB2 := Lib.hid (hp1.below HB.out (Nat.le_refl _) hzz)
                     clear hp1)
        exact ⟨⟨k + 1, by omega, by omega, by go_num, by rw [HCS.out]; exact HP1.out, HB2.out⟩, by simp [intOf]; omega⟩
      · have hbk : bk x = x % 1114112 := if_neg hs
        have HBK := Lib.hid hbk; clear hbk
        have hs2 : x % 1114112 < 55296 ∨ 57343 < x % 1114112 := by omega
        clear hs
        rcases hs2 with s0 | s0
        all_goals
          go_wp2_with fail
          refine (within_any x 1114112 _ WX.out (by omega) (by omega)).mono ?_; rintro e w' ⟨rfl, rfl⟩
          rw [← HBK.out] at s0 x0 x1 ⊢
          go_wp2_with (at_builtin; refine wpList_push rfl (.tmp 38) (.tmp 40) rfl w.heap.size wr u5 k (mapped bk z0 k) (bk x) (by rfl) HV.out (by rfl) (by omega) hzz ?_
                       intro g1 c1 w2 hp1
                       have HP1 := Lib.hid hp1.own
                       have HB2 := Lib.hid (hp1.below HB.out (Nat.le_refl _) hzz)
                       clear hp1)
          exact ⟨⟨k + 1, by omega, by omega, by go_num, by rw [HCS.out]; exact HP1.out, HB2.out⟩, by simp [intOf]; omega⟩
    · have hlen := mapped_len bk z0 k (by omega)
      have hsc : scs (enc (mapped bk z0 k)) = mapped bk z0 k := by rw [scs_enc_all, map_fix _ (bk_all z0 k)]
      have hsz := enc_size (mapped bk z0 k) 40 (by omega) (by omega)
      have hol := ofs_length 0 (enc (mapped bk z0 k))
      have HSC := Lib.hid hsc; have HSZ := Lib.hid hsz; have HLEN := Lib.hid hlen
      have HV := Lib.hid hv; have HB := Lib.hid hB; have hzz := hB.size
      clear hv hB hsc hsz hlen hol
      have hd : (k < len0 ∧ 40 ≤ k ∧ decide ((k : Int) < 40) = false) ∨ (len0 ≤ k ∧ decide ((k : Int) < (len0 : Int)) = false) := by simp; omega
      clear hgo
      generalize mapped bk z0 k = L at *
      have hr : len1 ≤ 100 ∨ 100 < len1 := by omega
      rcases hd with ⟨hd1, hd2, hd3⟩ | ⟨hd1, hd2⟩ <;> rcases hr with hr | hr
      all_goals
        go_wp2_with fail
        refine (encode_reads HV.out.reads (by omega)).mono ?_
        rintro e w2 ⟨rfl, hb2⟩
        have HV2 := Lib.hid (HV.out.below_top hb2); have HB2 := Lib.hid (HB.out.trans (hb2.mono hzz)); have hz2 := HB2.out.size
        clear hb2
        go_wp2_with fail
        refine (decode_any _ _ HSZ.out).mono ?_
        rintro e w3 ⟨p, q, rfl, hp, hq, hap, hb3⟩
        rw [show (⟨(enc L).toArray⟩ : ByteArray).data.toList = enc L from rfl, HSC.out] at hp hq
        rw [HLEN.out] at hp hq
        have HP := Lib.hid hp; have HQ := Lib.hid hq
        have HV3 := Lib.hid (HV2.out.below_top hb3); have HB3 := Lib.hid (HB2.out.trans (hb3.mono hz2)); have hz3 := HB3.out.size
        obtain ⟨gq, cq, rfl, _, _, hcq, _⟩ := hq.slice (by omega)
        obtain ⟨av, cv, rfl⟩ : ∃ av cv, u5 = .slice av k cv := by obtain ⟨_, av, cv, h, _⟩ := HV3.out.reads; exact ⟨av, cv, h⟩
        clear hp hq hap hb3
        go_wp2_with fail
        refine (ints_any HP.out.reads HV3.out.reads (by omega)).mono ?_
        rintro e w4 ⟨rfl, hb4⟩
        have HB4 := Lib.hid (HB3.out.trans (hb4.mono hz3)); have hz4 := HB4.out.size
        clear hb4
        have e1 : (((k + 1 : Nat) : Int) == (k : Int) + 1) = true := by simp
        have e2 : ((k : Int) + 1 == (k : Int) + 1) = true := by simp
        go_wp2_with fail
        first
          | (with_reducible refine (encode_reads (n := len1) ((HROW1.out.reads len1 (Nat.le_refl _)).below HB4.out) (by omega)).mono ?_)
          | (with_reducible refine (encode_reads (n := 100) ((HROW1.out.reads 100 (by omega)).below HB4.out) (by omega)).mono ?_)
        rintro e w5 ⟨rfl, hb5⟩
        have HB5 := Lib.hid (HB4.out.trans (hb5.mono hz4)); have hz5 := HB5.out.size
        clear hb5
        go_wp2_with fail
        first
          | (with_reducible refine (refencode_reads (n := len1) ((HROW1.out.reads len1 (Nat.le_refl _)).below HB5.out) (by omega)).mono ?_)
          | (with_reducible refine (refencode_reads (n := 100) ((HROW1.out.reads 100 (by omega)).below HB5.out) (by omega)).mono ?_)
        rintro e w6 ⟨rfl, hb6⟩
        have HB6 := Lib.hid (HB5.out.trans (hb6.mono hz5))
        clear hb6
        first
          | generalize (⟨(enc (z1.take len1)).toArray⟩ : ByteArray) = S at *
          | generalize (⟨(enc (z1.take 100)).toArray⟩ : ByteArray) = S at *
        go_wp2_with fail
        go_ret
        exact ⟨rfl, HB6.out⟩

end Go.Proofs.Ytcdenblejfmkaaa
