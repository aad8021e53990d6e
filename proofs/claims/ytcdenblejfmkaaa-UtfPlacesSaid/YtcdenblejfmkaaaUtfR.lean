/- Contract of the document's own Decode. -/
import Derived.Test.YtcdenblejfmkaaaUtfD
import Derived.Test.YtcdenblejfmkaaaUtfQ
import Derived.Test.YtcdenblejfmkaaaOwn
namespace Go.Proofs.Ytcdenblejfmkaaa
open Go.RowKit Go.Proofs

theorem extract_list (s : ByteArray) (k : Nat) : (s.extract k s.size).data.toList = s.data.toList.drop k := by
  rw [ByteArray.data_extract, Array.toList_extract, List.extract_eq_drop_take']
  rw [List.take_of_length_le (show s.data.toList.length ≤ s.size from Nat.le_refl _)]

/-- What Decode tells: the scalars, the offsets, in two rows of the call's own. -/
def DecTells (B : Nat) (w : World) (s : ByteArray) (e : Ending) (w' : World) : Prop :=
  ∃ v u, e = .returned (.tuple #[v, u]) ∧ Own w' B v (scs s.data.toList).length (scs s.data.toList) ∧ Own w' B u ((scs s.data.toList).length + 1) (ofs 0 s.data.toList ++ [(s.size : Int)]) ∧ Apart v u ∧ Below B w w'

set_option maxHeartbeats 1000000 in
theorem refdecode_any (s : ByteArray) (w : World) (hm : s.size ≤ 1000000) :
    Calls Try.prog 15 #[.string s] w (DecTells w.heap.size w s) := by
  have hl : s.data.toList.length = s.size := rfl
  have HL := Lib.hid hl; clear hl
  go_enter Try.func15, Try.ntmps15
  go_wp2_with fail
  go_loopw [4, 5, 6] (fun v u i wr => ∃ (k n : Nat) (O A : List Int), k ≤ s.size ∧ n ≤ k ∧ i = .int .i64 k ∧ Own wr w.heap.size v n O ∧ Own wr w.heap.size u n A ∧ Apart v u ∧ Below w.heap.size w wr ∧ O ++ scs (s.data.toList.drop k) = scs s.data.toList ∧ A ++ ofs k (s.data.toList.drop k) = ofs 0 s.data.toList) (fun _ _ i _ => s.size - (intOf i).toNat)
  case atStart => exact ⟨0, 0, [], [], Nat.zero_le _, Nat.le_refl _, rfl, Own.nil _ _, Own.nil _ _, Apart.nil, Below.refl _ _, by simp, by simp⟩
  case round =>
    obtain ⟨k, n, O, A, hk, hnk, rfl, hv, hu, hap, hbw, hO, hA⟩ := hrel
    by_cases hlt : k < s.size
    · have k0 : (0 : Int) ≤ (k : Int) := Int.natCast_nonneg _
      have k1 : (k : Int) < (s.size : Int) := by omega
      have hs := scs_at s.data.toList k (by rw [HL.out]; exact hlt)
      have ho := ofs_at s.data.toList k (by rw [HL.out]; exact hlt)
      obtain ⟨hn1, hn2, hn3⟩ := nx_at s.data.toList k (by rw [HL.out]; exact hlt)
      rw [HL.out] at hn3
      rw [hs] at hO; rw [ho] at hA
      have hx := extract_list s k
      have HX := Lib.hid hx
      have HV := Lib.hid hv; have HU := Lib.hid hu; have HAP := Lib.hid hap; have HBW := Lib.hid hbw; have HO := Lib.hid hO; have HA := Lib.hid hA
      clear hs ho hx hv hu hap hbw hO hA
      go_wp2_with fail
      refine (next_any (s.extract k s.size) _ (by rw [ByteArray.size_extract]; omega) (by rw [ByteArray.size_extract]; omega)).mono ?_
      rintro e w1 ⟨rfl, hb1⟩
      rw [HX.out]
      have HV1 := Lib.hid (HV.out.below_top hb1); have HU1 := Lib.hid (HU.out.below_top hb1)
      have HBW1 := Lib.hid (HBW.out.trans (hb1.mono HBW.out.size)); have hz1 := HBW1.out.size
      clear hb1
      generalize (nx (s.data.toList.drop k)).1 = r at *
      generalize (nx (s.data.toList.drop k)).2 = m at *
      go_wp2_with (first
        | (at_builtin; refine wpList_push rfl (.tmp 20) (.tmp 22) rfl w.heap.size w1 u4 n O r (by rfl) HV1.out (by rfl) (by omega) hz1 ?_
           intro g1 c1 w2 hp1
           have HP1 := Lib.hid hp1
           have HU2 := Lib.hid (hp1.other HAP.out HU1.out)
           have HBW2 := Lib.hid (hp1.below HBW1.out (Nat.le_refl _) hz1); have hz2 := HBW2.out.size
           clear hp1)
        | (at_builtin; refine wpList_push rfl (.tmp 24) (.tmp 26) rfl w.heap.size w2 u5 n A k (by rfl) HU2.out.1 (by rfl) (by omega) hz2 ?_
           intro g2 c2 w3 hp2
           have HF := Lib.hid (hp2.other HU2.out.2.symm HP1.out.own)
           have HP2 := Lib.hid hp2.own
           have HBW3 := Lib.hid (hp2.below HBW2.out (Nat.le_refl _) hz2)
           clear hp2))
      exact ⟨⟨k + m, n + 1, O ++ [r], A ++ [(k : Int)], by omega, by omega, by go_num, HF.out.1, HP2.out, HF.out.2.symm, HBW3.out, by rw [← HO.out]; simp, by rw [← HA.out]; simp⟩, by simp [intOf]; omega⟩
    · have hke : k = s.size := by omega
      have hd : s.data.toList.drop k = [] := List.drop_of_length_le (by rw [HL.out]; omega)
      rw [hd, scs_nil, List.append_nil] at hO
      rw [hd, ofs_nil, List.append_nil] at hA
      have hOn := hv.len
      have HON := Lib.hid hOn; have HKE := Lib.hid hke
      have HV := Lib.hid hv; have HU := Lib.hid hu; have HAP := Lib.hid hap; have HBW := Lib.hid hbw; have HO := Lib.hid hO; have HA := Lib.hid hA
      have hz := hbw.size
      clear hd hv hu hap hbw hO hA hOn hke
      go_wp2_with (at_builtin; refine wpList_push rfl (.tmp 32) (.tmp 35) rfl w.heap.size wr u5 n A s.size (by rfl) HU.out (by rfl) (by omega) hz ?_
                   intro g2 c2 w3 hp2
                   have HF := Lib.hid (hp2.other HAP.out.symm HV.out)
                   have HP2 := Lib.hid hp2.own
                   have HBW3 := Lib.hid (hp2.below HBW.out (Nat.le_refl _) hz)
                   clear hp2)
      go_ret2
      refine ⟨_, _, rfl, ?_, ?_, HF.out.2.symm, HBW3.out⟩
      · rw [← HO.out, HON.out]; exact HF.out.1
      · rw [← HO.out, HON.out, ← HA.out]; exact HP2.out

end Go.Proofs.Ytcdenblejfmkaaa
