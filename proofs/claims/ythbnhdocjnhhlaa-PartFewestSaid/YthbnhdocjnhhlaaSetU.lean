/- Contracts of the law texts' Raw and Make. -/
import Derived.Test.YthbnhdocjnhhlaaSetT
import Derived.Test.YthbnhdocjnhhlaaSetK
namespace Go.Proofs.Ythbnhdocjnhhlaa
open Go Go.RowKit
set_option linter.unusedVariables false

/-- The range that a number makes; the ranges of the first twelve numbers; the set that they make. -/
def rawR (nn : Int) : Int × Int := if nn / 60 % 7 = 0 then (nn / 420 % 1114112, nn / 420 % 1114112 + nn / 7 % 9 - 2) else (nn % 60, nn % 60 + nn / 7 % 9 - 2)
def rawL (zs : List Int) (k : Nat) : List (Int × Int) := (zs.take k).map fun x => rawR (wth x 1099511627776)
def rawA (zs : List Int) (len : Nat) : List (Int × Int) := rawL zs (min len 12)
def mkS (zs : List Int) (len : Nat) : List (Int × Int) := normL (rawA zs len)
theorem mkS_rt (zs : List Int) (len : Nat) : Rt (mkS zs len) := normL_rt _
theorem rawL_snoc (zs : List Int) (k : Nat) (hk : k < zs.length) : rawL zs (k + 1) = rawL zs k ++ [rawR (wth (zs.getD k 0) 1099511627776)] := by
  unfold rawL
  rw [List.take_succ_eq_append_getElem hk, List.map_append]
  have e : zs.getD k 0 = zs[k] := by simp [List.getD, List.getElem?_eq_getElem hk]
  rw [e]; rfl
theorem rawL_len (zs : List Int) (k : Nat) : (rawL zs k).length ≤ k := by unfold rawL; rw [List.length_map, List.length_take]; exact Nat.min_le_left _ _
theorem rawA_len (zs : List Int) (len : Nat) : (rawA zs len).length ≤ 12 := Nat.le_trans (rawL_len zs _) (Nat.min_le_right _ _)
theorem OwnP.at_len {w : World} {B n : Nat} {v : Value} {l : List (Int × Int)} (h : OwnP w B v n l) : OwnP w B v l.length l := h.cast h.len.symm rfl

set_option maxRecDepth 100000 in
set_option maxHeartbeats 4000000 in
theorem raw_any {w : World} {a : Option Addr} {len cap : Nat} {zs : List Int} (h : IsRow .i64 w a len cap zs) :
    Calls Try.prog 35 #[.slice a len cap] w (Tells w (rawA zs len)) := by
  have hl1 := h.len_le.1
  have hl2 := h.len_le.2
  have HA := Lib.hid h.at; clear h
  go_enter Try.func35, Try.ntmps35
  go_wp2_with fail
  go_loopw [3, 4] (fun s i wr => ∃ k : Nat, k ≤ len ∧ k ≤ 12 ∧ i = .int .i64 k ∧ Hid (OwnP wr w.heap.size s k (rawL zs k)) ∧ Hid (Below w.heap.size w wr)) (fun _ i _ => len - (intOf i).toNat)
  case atStart => exact ⟨0, Nat.zero_le _, Nat.zero_le _, rfl, Lib.hid (OwnP.nil _ _), Lib.hid (Below.refl _ _)⟩
  case round =>
    obtain ⟨k, hk, hk2, rfl, HV, HB⟩ := hrel
    have hz := HB.out.size
    have i0 : (0 : Int) ≤ (k : Int) := Int.natCast_nonneg _
    by_cases hlt : k < len
    · have i1 : (k : Int) < (len : Int) := by omega
      have t1 : decide (k < len) = true := by simpa using hlt
      by_cases h12 : k < 12
      · have i2 : (k : Int) < 12 := by omega
        obtain ⟨b, off, rfl, hbl, hc, hwf⟩ := HA.out k hlt
        have c1 := (HB.out.cell (p := ⟨b, off + k, none⟩) hbl).trans (hc k hlt)
        have SN := Lib.hid (rawL_snoc zs k (by omega))
        have hn9 : k ≤ 1000000000 := by omega
        clear hc hwf
        generalize zs.getD k 0 = x at *
        have hw := wth_bd x 1099511627776 (by omega)
        go_wp2_with fail
        refine (within_any _ _ (by omega) (by omega) _).mono ?_
        rintro e w' ⟨rfl, rfl⟩
        generalize wth x 1099511627776 = nn at *
        obtain ⟨w1, w2⟩ := hw
        have m1 : 0 ≤ nn % 60 ∧ nn % 60 < 60 := by omega
        have m2 : 0 ≤ nn / 7 % 9 ∧ nn / 7 % 9 < 9 := by omega
        have m3 : 0 ≤ nn / 420 % 1114112 ∧ nn / 420 % 1114112 < 1114112 := by omega
        obtain ⟨m11, m12⟩ := m1
        obtain ⟨m21, m22⟩ := m2
        obtain ⟨m31, m32⟩ := m3
        by_cases hc : nn / 60 % 7 = 0
        · have e : rawR nn = (nn / 420 % 1114112, nn / 420 % 1114112 + nn / 7 % 9 - 2) := by unfold rawR; rw [if_pos hc]
          rw [e] at SN; clear e
          have t3 : ((nn / 60 % 7) == 0) = true := by simpa using hc
          clear hc
          go_wp2_with (at_builtin; refine wpList_pushP rfl (.tmp 31) (.tmp 40) rfl w.heap.size _ _ _ _ _ _ (by rfl) HV.out _ (by rfl) rfl hn9 hz ?_
                       intro g1 c1' w2 hp1
                       have HP1 := Lib.hid hp1
                       clear hp1)
          exact ⟨⟨k + 1, by omega, by omega, by go_num, Lib.hid (by rw [SN.out]; exact HP1.out.own), Lib.hid (HP1.out.below HB.out (Nat.le_refl _) hz)⟩, by simp [intOf]; omega⟩
        · have e : rawR nn = (nn % 60, nn % 60 + nn / 7 % 9 - 2) := by unfold rawR; rw [if_neg hc]
          rw [e] at SN; clear e
          have t3 : ((nn / 60 % 7) == 0) = false := by simpa using hc
          clear hc
          go_wp2_with (at_builtin; refine wpList_pushP rfl (.tmp 31) (.tmp 40) rfl w.heap.size _ _ _ _ _ _ (by rfl) HV.out _ (by rfl) rfl hn9 hz ?_
                       intro g1 c1' w2 hp1
                       have HP1 := Lib.hid hp1
                       clear hp1)
          exact ⟨⟨k + 1, by omega, by omega, by go_num, Lib.hid (by rw [SN.out]; exact HP1.out.own), Lib.hid (HP1.out.below HB.out (Nat.le_refl _) hz)⟩, by simp [intOf]; omega⟩
      · have i2 : ¬ (k : Int) < 12 := by omega
        have t2 : decide (k < 12) = false := by simpa using h12
        have HE := Lib.hid (show rawA zs len = rawL zs k by unfold rawA; congr 1; omega)
        clear t2
        go_wp2_with fail
        go_ret
        exact ⟨_, rfl, by rw [HE.out]; exact HV.out.at_len, HB.out⟩
    · have HE := Lib.hid (show rawA zs len = rawL zs k by unfold rawA; congr 1; omega)
      go_wp2_with fail
      go_ret
      exact ⟨_, rfl, by rw [HE.out]; exact HV.out.at_len, HB.out⟩

theorem make_any {w : World} {a : Option Addr} {len cap : Nat} {zs : List Int} (h : IsRow .i64 w a len cap zs) :
    Calls Try.prog 25 #[.slice a len cap] w (Tells w (mkS zs len)) := by
  have HR := Lib.hid (raw_any h); clear h
  have hl := rawA_len zs len
  go_enter Try.func25, Try.ntmps25
  go_wp2_with fail
  refine HR.out.mono ?_
  rintro e w1 ⟨v1, rfl, h1, h2⟩
  have O1 := Lib.hid h1; have B1 := Lib.hid h2; clear h1 h2
  go_wp2_with fail
  refine (rnorm_any O1.out.reads (by omega)).mono ?_
  rintro e w2 ht
  have HT := Lib.hid (ht.more B1.out); clear ht
  obtain ⟨v2, rfl, h1, h2⟩ := HT.out
  have O2 := Lib.hid h1; have B2 := Lib.hid h2; clear h1 h2
  go_wp2_with fail
  go_ret
  exact ⟨_, rfl, O2.out, B2.out⟩

end Go.Proofs.Ythbnhdocjnhhlaa
