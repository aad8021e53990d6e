/- TableSums: any bytes' sum is the document's; with one byte turned it is another one. -/
import Derived.Test.YtjkcglgkdclidaaVTableYq
set_option linter.unusedVariables false
set_option linter.unusedSimpArgs false
set_option maxRecDepth 100000
set_option maxHeartbeats 4000000
namespace Go.Proofs.Ytjkcglgkdclidaa
open Go Go.RowKit Go.Proofs
theorem tableSums_walk (a0 : Option Addr) (len0 cap0 : Nat) (z0 : List Int) (a1 : Int) (a2 : Int) (w : World) (w0 : IsRow .u8 w a0 len0 cap0 z0) (w1 : (Lit.int .i64 a1).wf = true) (w2 : (Lit.int .u8 a2).wf = true) :
  Calls Try.prog 6 #[.slice a0 len0 cap0, .int .i64 a1, .int .u8 a2] w fun e w' => e = .returned (.bool true) /\ Below w.heap.size w w' := by
  have HY := Lib.hid w0.bytes
  have hl9 : len0 <= 9223372036854775807 := w0.len_le.2
  have h2 : ByteI a2 := by
   simp [Lit.wf] at w2
   have e1 : IntKind.u8.min = 0 := rfl
   have e2 : IntKind.u8.max = 255 := rfl
   rw [e1, e2] at w2
   unfold ByteI
   omega
  obtain ⟨l, hl⟩ : ∃ l, z0.take len0 = l := ⟨_, rfl⟩
  rw [hl] at HY
  have HLL : Hid (l.length = len0) := Lib.hid HY.out.1.1
  clear w0 w1 w2 hl
  go_enter Try.func6, Try.ntmps6
  go_wp2_with fail
  refine (tknown_any _).mono ?_
  rintro e V1 ⟨rfl, hb⟩
  replace HY := Lib.hid (HY.out.below hb)
  have HB := Lib.hid hb
  clear hb
  by_cases h0 : len0 = 0
  ·subst h0
   go_wp2_with fail
   refine (sum_any HY.out).mono ?_
   rintro e V2 ⟨rfl, rfl⟩
   go_wp2_with fail
   refine (rsum_any HY.out).mono ?_
   rintro e V3 ⟨rfl, rfl⟩
   go_wp2_with fail
   go_ret
   exact ⟨by simp, HB.out⟩
  by_cases h4 : 400 < len0
  ·have h4' : (400 : Int) < (len0 : Int) := by omega
   go_wp2_with fail
   refine (sum_any HY.out).mono ?_
   rintro e V2 ⟨rfl, rfl⟩
   go_wp2_with fail
   refine (rsum_any HY.out).mono ?_
   rintro e V3 ⟨rfl, rfl⟩
   go_wp2_with fail
   go_ret
   exact ⟨by simp, HB.out⟩
  have h4' : ¬ (400 : Int) < (len0 : Int) := by omega
  have h0' : ¬ (len0 : Int) = 0 := by omega
  have hp0 : (0 : Int) < (len0 : Int) := by omega
  obtain ⟨k, hk⟩ : ∃ k : Nat, a1 % (len0 : Int) = (k : Int) := ⟨(a1 % (len0 : Int)).toNat, by have := Int.emod_nonneg a1 (show (len0 : Int) ≠ 0 by omega); omega⟩
  have hkl : (k : Int) < (len0 : Int) := by rw [<- hk]; exact Int.emod_lt_of_pos _ hp0
  have hkl2 : k < len0 := by omega
  have hkk : k < l.length := by rw [HLL.out]; exact hkl2
  have HKK := Lib.hid hkk
  have hk0 : (0 : Int) <= (k : Int) := Int.natCast_nonneg _
  obtain ⟨x, hx⟩ : ∃ x, l.getD k 0 = x := ⟨_, rfl⟩
  have hxb : ByteI x := by rw [<- hx]; exact HY.out.2 _ (getD_mem hkk)
  have HX := Lib.hid hx
  obtain ⟨x0, x1⟩ := hxb
  obtain ⟨y0, y1⟩ := h2
  have e1 : ((len0 : Int) == 0) = false := by simpa using h0
  have e2 : decide (400 < (len0 : Int)) = false := by simpa using h4'
  have hkI : ((k : Int)).toNat = k := Int.toNat_natCast k
  have hout : BRow (V1.alloc (.cells #[] 5)) V1.heap.size (.slice (some ⟨V1.heap.size, 0, none⟩) 0 0) [] := BRow.none_ V1
  have HOUT := Lib.hid hout
  have HYA := Lib.hid (HY.out.below (w' := V1.alloc (.cells #[] 5)) ((Below.refl _ _).alloc (Nat.le_refl _) _))
  clear hx hkk hout
  go_wp2_with (at_builtin; refine wpList_concatB rfl (.tmp 23) (.tmp 24) rfl V1.heap.size (.slice (some ⟨V1.heap.size, 0, none⟩) 0 0) 0 [] (by rfl) HOUT.out (.slice a0 len0 cap0) len0 l (by rfl) HYA.out.1 (by omega) (by simp) ?_; intro v' w' ho hg ha; have hbr : BRow w' V1.heap.size v' l := (by rw [Nat.zero_add, List.nil_append] at ho; rw [<- HLL.out] at ho; exact ho); have hbl : Below V1.heap.size V1 w' := ((Below.refl _ _).alloc (Nat.le_refl _) _).grown hg (by simp) (fun q hq => by simp only [Value.ownBlock, Option.some.injEq] at hq; omega); have hvf := hbr.form; rcases hvf with ⟨-, e⟩ | ⟨g, cap, e, hg1, hg2, hg3, hg4⟩; (exact absurd (show l.length = 0 by rw [e]; rfl) (by rw [HLL.out]; exact h0)); rw [HLL.out] at e hg3; subst e; have HBR := Lib.hid hbr; have HBL := Lib.hid hbl; have hcx : w'.cell? ⟨g, k, none⟩ = some (.int .u8 x) := (by rw [<- HX.out]; rw [<- HLL.out] at hbr; exact hbr.cellAt HKK.out); have hfx : w'.frozen? ⟨g, k, none⟩ = false := (by rw [<- HLL.out] at hbr; exact hbr.frozenAt k); clear ho hg ha hbr hbl hg4 HOUT HYA)
  refine (twithin2_any a1 (len0 : Int) hp0 (by omega) _).mono ?_
  rintro e w9 ⟨rfl, hw9⟩
  subst hw9
  rw [hk]
  go_wp2_with fail
  obtain ⟨V2, hV2⟩ : ∃ W, w'.setCell ⟨g, k, none⟩ (.int .u8 ((x + a2) % 256)) = W := ⟨_, rfl⟩
  have hb2 : Below V1.heap.size V1 V2 := by rw [<- hV2]; exact HBL.out.setCell hg1 _
  have hn : BRow V2 V1.heap.size (.slice (some ⟨g, 0, none⟩) l.length cap) (l.set k ((x + a2) % 256)) := by
   rw [<- hV2]
   have := HBR.out
   rw [<- HLL.out] at this
   exact this.set_ k _
  have hby : ∀ q ∈ l.set k ((x + a2) % 256), ByteI q := by
   intro q hq
   rcases List.mem_or_eq_of_mem_set hq with h | h
   ·exact HY.out.2 q h
   ·subst h; unfold ByteI; omega
  have hsum := sumI_set (l := l) (k := k) (y := (x + a2) % 256) HY.out.2 (by unfold ByteI; omega) HKK.out
  have HN := Lib.hid (hn.bytes hby)
  rw [List.length_set, HLL.out] at HN
  have HY2 := Lib.hid (HY.out.below hb2)
  have HB2 := Lib.hid (HB.out.trans (hb2.mono HB.out.size))
  rw [HX.out] at hsum
  rw [hV2]
  obtain ⟨s1, hs1⟩ : ∃ s, sumI l = s := ⟨_, rfl⟩
  obtain ⟨s2, hs2⟩ : ∃ s, sumI (l.set k ((x + a2) % 256)) = s := ⟨_, rfl⟩
  rw [hs1, hs2] at hsum
  have HS1 := Lib.hid hs1; have HS2 := Lib.hid hs2; have HSM := Lib.hid hsum
  clear hs1 hs2 hsum hby hn hb2 hV2 hcx hfx HBL HBR HB HY
  refine (sum_any HY2.out).mono ?_
  rintro e V3 ⟨rfl, hw⟩
  subst hw
  rw [HS1.out]
  go_wp2_with fail
  refine (rsum_any HY2.out).mono ?_
  rintro e V4 ⟨rfl, hw⟩
  subst hw
  rw [HS1.out]
  by_cases ha : a2 = 0
  ·have e3 : (a2 == (0 : Int)) = true := by simpa using ha
   have e4 : s2 = s1 := HSM.out.2 (by omega)
   subst e4
   go_wp2_with fail
   refine (sum_any HN.out).mono ?_
   rintro e V5 ⟨rfl, hw⟩
   subst hw
   rw [HS2.out]
   go_wp2_with fail
   refine (sum_any HY2.out).mono ?_
   rintro e V6 ⟨rfl, hw⟩
   subst hw
   rw [HS1.out]
   go_wp2_with fail
   go_ret
   exact ⟨by simp, HB2.out⟩
  ·have e3 : (a2 == (0 : Int)) = false := by simpa using ha
   have e4 : ¬ s2 = s1 := fun e => by have := HSM.out.1 e; omega
   have e5 : (s2 == s1) = false := by simpa using e4
   go_wp2_with fail
   refine (sum_any HN.out).mono ?_
   rintro e V5 ⟨rfl, hw⟩
   subst hw
   rw [HS2.out]
   go_wp2_with fail
   refine (sum_any HY2.out).mono ?_
   rintro e V6 ⟨rfl, hw⟩
   subst hw
   rw [HS1.out]
   go_wp2_with fail
   go_ret
   exact ⟨by simp, HB2.out⟩
end Go.Proofs.Ytjkcglgkdclidaa
