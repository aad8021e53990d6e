/- Contracts of the document's own Digits and Text. -/
import Derived.Test.YtemofnmfaimliaaDoorTropH
namespace Go.Proofs.YtemofnmfaimliaaDoor
open Go.RowKit

theorem digit_any (n : Int) (w : World) (h0 : 0 ≤ n) (h1 : n < 10) :
    Calls Tryd.prog 26 #[.int .i64 n] w fun e w' => e = .returned (.string ⟨(Lib.decDigits n.toNat).toArray⟩) ∧ Below w.heap.size w w' := by
  have hd : strOfNums [48 + n] = ⟨(Lib.decDigits n.toNat).toArray⟩ := by
    rw [Lib.decDigits, dif_pos (by omega)]
    unfold strOfNums
    simp only [List.map_cons, List.map_nil]
    rw [show (48 + n).toNat = 48 + n.toNat by omega]
  have HD := Lib.hid hd; clear hd
  have hcv := run_convert_bytes_arg (P := Tryd.prog) (w.alloc (.cells #[.int .u8 (48 + n)] 5)) 47 5 Tryd.underlying47 Tryd.underlying5 w.heap.size 0 1 1 [48 + n] rfl (fun i hi => by
    obtain rfl : i = 0 := by omega
    simp [go_sem]) 9 Tryd.underlying9
  go_enter Tryd.func26, Tryd.ntmps26
  go_wp2_with fail
  go_ret
  exact ⟨by rw [← HD.out]; rfl, (Below.refl _ _).alloc (Nat.le_refl _) _⟩

theorem dec_len (u : Nat) (h : u < 10000000000000000000) : (Lib.decDigits u).length ≤ 19 := by
  rw [Lib.decDigits_eq]
  simp only [List.length_map, List.length_range]
  exact nDigits_le 18 _ (by omega)
theorem str_app (l1 l2 : List UInt8) : (⟨l1.toArray⟩ : ByteArray) ++ ⟨l2.toArray⟩ = ⟨(l1 ++ l2).toArray⟩ := by
  rw [← List.append_toArray]
  exact ByteArray.ext (by simp)

theorem digits_any (k : Nat) : ∀ (n : Int) (w : World), n ≤ k → 0 ≤ n → n ≤ 1152921504606846976 →
    Calls Tryd.prog 26 #[.int .i64 n] w fun e w' => e = .returned (.string ⟨(Lib.decDigits n.toNat).toArray⟩) ∧ Below w.heap.size w w' := by
  induction k with
  | zero => intro n w hk h0 _; exact digit_any n w h0 (by omega)
  | succ k ih =>
    intro n w hk h0 h2
    by_cases h1 : n < 10
    · exact digit_any n w h0 h1
    · have hd : Lib.decDigits n.toNat = Lib.decDigits (n / 10).toNat ++ Lib.decDigits (n % 10).toNat := by
        rw [Lib.decDigits, dif_neg (by omega), show Lib.decDigits (n % 10).toNat = [UInt8.ofNat (48 + n.toNat % 10)] by
          rw [Lib.decDigits, dif_pos (by omega), show (n % 10).toNat = n.toNat % 10 by omega], show (n / 10).toNat = n.toNat / 10 by omega]
      have HD := Lib.hid hd; clear hd
      have IH := Lib.hid ih; clear ih
      go_enter Tryd.func26, Tryd.ntmps26
      go_wp2_with fail
      refine (IH.out (n / 10) _ (by omega) (by omega) (by omega)).mono ?_; rintro e w1 ⟨rfl, hb1⟩
      have HB1 := Lib.hid hb1; clear hb1
      have hl1 := dec_len (n / 10).toNat (by omega)
      have hl2 := dec_len (n % 10).toNat (by omega)
      generalize Lib.decDigits (n / 10).toNat = l1 at *
      go_wp2_with fail
      refine (digit_any (n % 10) _ (by omega) (by omega)).mono ?_; rintro e w2 ⟨rfl, hb2⟩
      have HB2 := Lib.hid (HB1.out.trans (hb2.mono HB1.out.size)); clear hb2 HB1
      generalize Lib.decDigits (n % 10).toNat = l2 at *
      have hl3 : ¬ 9223372036854775807 < l1.length + l2.length := by omega
      go_wp2_with fail
      go_ret
      exact ⟨by rw [HD.out, ← str_app]; rfl, HB2.out⟩

end Go.Proofs.YtemofnmfaimliaaDoor
