/- The law UtfCat returns true, whatever the numbers and bytes. -/
import Derived.Test.YtcdenblejfmkaaaUtfW
import Derived.Test.YtcdenblejfmkaaaConcat
namespace Go.Proofs.Ytcdenblejfmkaaa
open Go.RowKit Go.Proofs
set_option linter.unusedVariables false

/-- What the law text makes of a number: a scalar. -/
def ct (z : Int) : Int := if scB (z % 1114112) = true then z % 1114112 else 120
theorem ct_all (z : List Int) (k : Nat) : ∀ x ∈ mapped ct z k, isScalar x := by
  intro x hx
  unfold mapped at hx
  obtain ⟨y, _, rfl⟩ := List.mem_map.1 hx
  unfold ct
  split
  · exact (scB_iff _).1 ‹_›
  · unfold isScalar; omega
theorem str_cat (l : List UInt8) (T : ByteArray) : ((⟨l.toArray⟩ : ByteArray) ++ T).data.toList = l ++ T.data.toList := by
  rw [ByteArray.data_append]; simp

set_option maxRecDepth 100000 in
set_option maxHeartbeats 2000000 in
theorem cat_walk (a0 : Option Addr) (len0 cap0 : Nat) (z0 : List Int) (a1 : Option Addr) (len1 cap1 : Nat) (z1 : List Int) (a2 : Option Addr) (len2 cap2 : Nat) (z2 : List Int) (w : World) (w0 : IsRow .i64 w a0 len0 cap0 z0) (w1 : IsRow .i64 w a1 len1 cap1 z1) (w2 : IsRow .u8 w a2 len2 cap2 z2) :
    Calls Try.prog 8 #[.slice a0 len0 cap0, .slice a1 len1 cap1, .slice a2 len2 cap2] w fun e w' => e = .returned (.bool true) ∧ Below w.heap.size w w' := by
  have hle := w0.len_le
  have hle2 := w2.len_le
  have HROW := Lib.hid w0; have HROW1 := Lib.hid w1; have HROW2 := Lib.hid w2; clear w0 w1 w2
  by_cases h60 : len2 ≤ 60
  · go_enter Try.func8, Try.ntmps8
    go_wp2_with fail
    refine (known_any _).mono ?_
    rintro e w1 ⟨rfl, hb1⟩
    have HB1 := Lib.hid hb1; clear hb1
    go_wp2_with fail
    go_loopw [7, 8] (fun v i wr => ∃ k : Nat, k ≤ len0 ∧ k ≤ 20 ∧ i = .int .i64 k ∧ Own wr w.heap.size v k (mapped ct z0 k) ∧ Below w.heap.size w wr) (fun _ i _ => len0 - (intOf i).toNat)
    case atStart => exact ⟨0, Nat.zero_le _, by omega, rfl, Own.nil _ _, HB1.out⟩
    case round =>
      obtain ⟨k, hk, hk20, rfl, hv, hB⟩ := hrel
      have k0 : (0 : Int) ≤ (k : Int) := Int.natCast_nonneg _
      by_cases hgo : k < len0 ∧ k < 20
      · obtain ⟨hlt, h20⟩ := hgo
        obtain ⟨b, off, rfl, hbs, hc, hwf⟩ := HROW.out.at k hlt
        have hx : wr.cell? ⟨b, off + k, none⟩ = some (.int .i64 (z0.getD k 0)) := by rw [(bcell hB).1 _ _ hbs]; exact hc k hlt
        have WX := Lib.hid (hwf k hlt)
        have HCS := Lib.hid (mapped_succ ct z0 k (by omega))
        have HV := Lib.hid hv; have HB := Lib.hid hB; have hzz := hB.size
        clear hc hwf hv hB
        generalize z0.getD k 0 = x at *
        have k1 : (k : Int) < (len0 : Int) := by omega
        have x0 : 0 ≤ x % 1114112 := by omega
        have x1 : x % 1114112 < 1114112 := by omega
        cases hs : scB (x % 1114112)
        · have hct : ct x = 120 := by unfold ct; rw [hs]; rfl
          have HCT := Lib.hid hct; have HS := Lib.hid hs; clear hct hs
          go_wp2_with fail
          refine (within_any x 1114112 _ WX.out (by omega) (by omega)).mono ?_; rintro e w' ⟨rfl, rfl⟩
          go_wp2_with fail
          refine (refscalar_any _ _).mono ?_; rintro e w' ⟨rfl, rfl⟩
          rw [HS.out]
          go_wp2_with (at_builtin; refine wpList_push rfl (.tmp 39) (.tmp 41) rfl w.heap.size wr u7 k (mapped ct z0 k) 120 (by rfl) HV.out (by rfl) (by omega) hzz ?_
                       intro g1 c1 w2 hp1
                       have HP1 := Lib.hid hp1.own
                       have HB2 := Lib.hid (hp1.below HB.out (Nat.le_refl _) hzz)
                       clear hp1)
          exact ⟨⟨k + 1, by omega, by omega, by go_num, by rw [HCS.out, HCT.out]; exact HP1.out, HB2.out⟩, by simp [intOf]; omega⟩
        · have hct : ct x = x % 1114112 := by unfold ct; rw [hs]; rfl
          have HCT := Lib.hid hct; have HS := Lib.hid hs; clear hct hs
          go_wp2_with fail
          refine (within_any x 1114112 _ WX.out (by omega) (by omega)).mono ?_; rintro e w' ⟨rfl, rfl⟩
          go_wp2_with fail
          refine (refscalar_any _ _).mono ?_; rintro e w' ⟨rfl, rfl⟩
          rw [HS.out]
          go_wp2_with (at_builtin; refine wpList_push rfl (.tmp 39) (.tmp 41) rfl w.heap.size wr u7 k (mapped ct z0 k) (x % 1114112) (by rfl) HV.out (by rfl) (by omega) hzz ?_
                       intro g1 c1 w2 hp1
                       have HP1 := Lib.hid hp1.own
                       have HB2 := Lib.hid (hp1.below HB.out (Nat.le_refl _) hzz)
                       clear hp1)
          exact ⟨⟨k + 1, by omega, by omega, by go_num, by rw [HCS.out, HCT.out]; exact HP1.out, HB2.out⟩, by simp [intOf]; omega⟩
      · have hlen := mapped_len ct z0 k (by omega)
        have hfx := map_fix _ (ct_all z0 k)
        have hel := enc_len (mapped ct z0 k)
        rw [hlen] at hel
        have hez : (enc (mapped ct z0 k)).length ≤ 80 := by omega
        have HFX := Lib.hid hfx; have HLEN := Lib.hid hlen
        have HV := Lib.hid hv; have HB := Lib.hid hB; have hzz := hB.size
        clear hv hB hfx hlen hel
        have hd : (k < len0 ∧ 20 ≤ k ∧ decide ((k : Int) < 20) = false) ∨ (len0 ≤ k ∧ decide ((k : Int) < (len0 : Int)) = false) := by simp; omega
        clear hgo
        generalize mapped ct z0 k = L at *
        rcases hd with ⟨hd1, hd2, hd3⟩ | ⟨hd1, hd2⟩
        all_goals
          go_wp2_with fail
          refine (refencode_reads HV.out.reads (by omega)).mono ?_
          rintro e w2 ⟨rfl, hb2⟩
          have HV2 := Lib.hid (HV.out.below_top hb2); have HB2 := Lib.hid (HB.out.trans (hb2.mono hzz)); have hz2 := HB2.out.size
          clear hb2
          go_wp2_with fail
          refine (bytes_any a1 len1 cap1 z1 a2 len2 cap2 z2 w _ HB2.out HROW1.out HROW2.out (by omega)).mono ?_
          rintro e w3 ⟨T, rfl, hT, hb3⟩
          have HV3 := Lib.hid (HV2.out.below_top hb3); have HB3 := Lib.hid (HB2.out.trans (hb3.mono hz2)); have hz3 := HB3.out.size
          clear hb3
          have hcat : ((⟨(enc L).toArray⟩ : ByteArray) ++ T).data.toList = enc L ++ T.data.toList := str_cat _ _
          have hcz : ((⟨(enc L).toArray⟩ : ByteArray) ++ T).size ≤ 1000000 := by
            have e1 : (⟨(enc L).toArray⟩ : ByteArray).size = (enc L).length := by simp [ByteArray.size]
            rw [ByteArray.size_append, e1]; omega
          have hce : (⟨(enc L).toArray⟩ : ByteArray).size = (enc L).length := by simp [ByteArray.size]
          have HCAT := Lib.hid hcat; have HCZ := Lib.hid hcz
          have hscat : scs (enc L ++ T.data.toList) = L ++ scs T.data.toList := by rw [scs_enc, HFX.out]
          have HSC := Lib.hid hscat
          have htl := scs_length_le T.data.toList
          have htl2 : (scs T.data.toList).length ≤ 1300 := Nat.le_trans htl hT
          clear hcat hcz hscat htl
          go_wp2_with fail
          refine (decode_any _ _ HCZ.out).mono ?_
          rintro e w4 ⟨p, q, rfl, hp, hq, hap, hb4⟩
          rw [HCAT.out, HSC.out] at hp
          have HP4 := Lib.hid hp
          have HV4 := Lib.hid (HV3.out.below_top hb4); have HB4 := Lib.hid (HB3.out.trans (hb4.mono hz3)); have hz4 := HB4.out.size
          clear hp hq hap hb4
          go_wp2_with fail
          refine (decode_any T _ (by omega)).mono ?_
          rintro e w5 ⟨p', q', rfl, hp, hq, hap, hb5⟩
          have HT5 := Lib.hid hp
          have HP5 := Lib.hid (HP4.out.below_top hb5)
          have HV5 := Lib.hid (HV4.out.below_top hb5); have HB5 := Lib.hid (HB4.out.trans (hb5.mono hz4)); have hz5 := HB5.out.size
          clear hp hq hap hb5
          have HE := Lib.hid (Own.empty w5)
          have HP6 := Lib.hid (HP5.out.alloc (.cells #[] 3)); have HV6 := Lib.hid (HV5.out.alloc (.cells #[] 3)); have HT6 := Lib.hid (HT5.out.alloc (.cells #[] 3))
          have HB6 := Lib.hid (HB5.out.alloc hz5 (.cells #[] 3))
          go_wp2_with (first
            | (at_builtin; refine wpList_concat rfl (.tmp 61) (.tmp 62) rfl w5.heap.size _ 0 [] (by rfl) HE.out w.heap.size u7 k L (by rfl) HV6.out (by omega) (by simp) ?_
               intro v7 w7 ho7 hb7
               have HO7 := Lib.hid ho7; have HP7 := Lib.hid (HP6.out.below (fun g hg => (HP5.out.lt g hg).2) hb7); have HT7 := Lib.hid (HT6.out.below (fun g hg => (HT5.out.lt g hg).2) hb7)
               have HB7 := Lib.hid (HB6.out.trans (hb7.mono hz5))
               have hz7 : w5.heap.size ≤ w7.heap.size := by have := hb7.size; simp at this; omega
               clear ho7 hb7)
            | (at_builtin; refine wpList_concat rfl (.tmp 63) (.tmp 64) rfl w5.heap.size v7 (0 + k) ([] ++ L) (by rfl) HO7.out _ p' _ (scs T.data.toList) (by rfl) HT7.out (by omega) hz7 ?_
               intro v8 w8 ho8 hb8
               have HO8 := Lib.hid ho8; have HP8 := Lib.hid (HP7.out.below (fun g hg => (HP5.out.lt g hg).2) hb8)
               have HB8 := Lib.hid (HB7.out.trans (hb8.mono hz5)); have hz8 := HB8.out.size
               clear ho8 hb8))
          have hl8 : 0 + k + (scs T.data.toList).length = (L ++ scs T.data.toList).length := by rw [List.length_append, HLEN.out]; omega
          have hr8 := HO8.out.reads
          rw [hl8, List.nil_append] at hr8
          refine (ints_any HP8.out.reads hr8 (by rw [List.length_append, HLEN.out]; omega)).mono ?_
          rintro e w9 ⟨rfl, hb9⟩
          have HB9 := Lib.hid (HB8.out.trans (hb9.mono hz8))
          clear hb9
          go_wp2_with fail
          go_ret
          exact ⟨rfl, HB9.out⟩
  · have h61 : 60 < len2 := by omega
    go_enter Try.func8, Try.ntmps8
    go_wp2_with fail
    refine (known_any _).mono ?_
    rintro e w1 ⟨rfl, hb1⟩
    have HB1 := Lib.hid hb1; clear hb1
    go_wp2_with fail
    go_ret
    exact ⟨rfl, HB1.out⟩

end Go.Proofs.Ytcdenblejfmkaaa
