/- What was decoded, encoded again; short strings. -/
import Derived.Test.YtacgakkcpmhgmaaVSegU
import Derived.Test.YtacgakkcpmhgmaaVMiniMd
set_option linter.unusedVariables false
set_option linter.unusedSimpArgs false
set_option maxRecDepth 100000
set_option maxHeartbeats 1000000
namespace Go.Proofs.Ytacgakkcpmhgmaa
open Go Go.RowKit Go.Proofs
theorem enc_one_le (x : Int) : (Lib.encodeRune x).length <= 4 := by
 have h := enc_len [x]
 simpa [enc] using h
theorem enc_nx_le (l : List UInt8) : (Lib.encodeRune (nx l).1).length <= 3 * (nx l).2 := by
 have h4 := enc_one_le (nx l).1
 have h3 : (Lib.encodeRune 65533).length = 3 := by decide
 have h1 : ∀ y : Int, 0 <= y -> y <= 127 -> (Lib.encodeRune y).length = 1 := fun y a b => by
  rw [enc_length, Lib.encodeRuneZ_one a b]; rfl
 have b0 := bt_lt l 0
 rcases nx_cases l with ⟨h, e⟩ | ⟨_, e⟩ | ⟨_, _, _, e⟩ | ⟨_, _, hs, e⟩ | ⟨_, _, hs, _, e⟩ | ⟨_, _, hs, h2, e⟩ | ⟨_, _, hs, h2, _, e⟩ | ⟨_, _, hs, h2, h3, e⟩ <;> rw [e] at h4 ⊢ <;> dsimp only at h4 ⊢ <;> try omega
 ·rw [h1 _ (by omega) (by omega)]; omega
theorem enc_scs_le : ∀ (n : Nat) (l : List UInt8), l.length <= n -> (enc (scs l)).length <= 3 * l.length
 | 0, l, h => by
   obtain rfl : l = [] := List.eq_nil_of_length_eq_zero (by omega)
   rw [scs_nil]; simp [enc]
 | n + 1, l, h => by
   by_cases e : l = []
   ·subst e; rw [scs_nil]; simp [enc]
   ·have hp := List.length_pos_iff.2 e
    have hn := nx_le l e
    have hd : (l.drop (nx l).2).length = l.length - (nx l).2 := List.length_drop
    have ih := enc_scs_le n (l.drop (nx l).2) (by omega)
    have h1 := enc_nx_le l
    rw [scs_cons l e]
    have e2 : enc ((nx l).1 :: scs (l.drop (nx l).2)) = Lib.encodeRune (nx l).1 ++ enc (scs (l.drop (nx l).2)) := by simp [enc]
    rw [e2, List.length_append]
    omega
theorem scs_scalar (l : List UInt8) : ∀ x ∈ scs l, isScalar x := by
 have key : ∀ (n : Nat) (l : List UInt8), l.length <= n -> ∀ x ∈ scs l, isScalar x := by
  intro n
  induction n with
  | zero =>
    intro l h x hx
    obtain rfl : l = [] := List.eq_nil_of_length_eq_zero (by omega)
    rw [scs_nil] at hx; cases hx
  | succ n ih =>
    intro l h x hx
    by_cases e : l = []
    ·subst e; rw [scs_nil] at hx; cases hx
    ·rw [scs_cons l e] at hx
     have hp := List.length_pos_iff.2 e
     have hn := nx_le l e
     rcases List.mem_cons.1 hx with h9 | hx
     ·rw [h9]; exact nx_scalar l
     ·exact ih _ (by rw [List.length_drop]; omega) x hx
 exact key _ l (Nat.le_refl _)
theorem segT_enc (t : Tab) {l : List Int} (h : ∀ x ∈ l, isScalar x) : segT t ⟨(enc l).toArray⟩ = segL t (textI t l) := by
 unfold segT
 have e : (⟨(enc l).toArray⟩ : ByteArray).data.toList = enc l := rfl
 rw [e, scs_enc_all, map_fix l h]
theorem bytes_short (a0 : Option Addr) (len0 cap0 : Nat) (z0 : List Int) (a1 : Option Addr) (len1 cap1 : Nat) (z1 : List Int) (w0 w : World) (hw0 : Below w0.heap.size w0 w) (r0 : IsRow .i64 w0 a0 len0 cap0 z0) (r1 : IsRow .u8 w0 a1 len1 cap1 z1) (h0 : len1 <= 0) :
  Calls Try.prog 17 #[.slice a0 len0 cap0, .slice a1 len1 cap1] w fun e w' => ∃ S : ByteArray, e = .returned (.string S) /\ S.size <= 160 /\ Below w.heap.size w w' := by
  have hle := r0.len_le
  have hcap := r1.cap_le
  have hw0z := hw0.size
  have HW0 := Lib.hid hw0
  have HR0 := Lib.hid r0; have HR1 := Lib.hid r1; clear r0 r1 hw0
  go_enter Try.func17, Try.ntmps17
  go_wp2_with fail
  obtain ⟨W, hW⟩ : ∃ W : World, W = w.alloc (.cells #[.string ⟨#[97]⟩, .string ⟨#[90]⟩, .string ⟨#[32]⟩, .string ⟨#[195, 164]⟩, .string ⟨#[226, 130, 172]⟩, .string ⟨#[228, 184, 128]⟩, .string ⟨#[240, 159, 152, 128]⟩, .string ⟨#[239, 191, 189]⟩, .string ⟨#[128]⟩, .string ⟨#[255]⟩, .string ⟨#[195]⟩, .string ⟨#[192, 128]⟩, .string ⟨#[226, 130]⟩, .string ⟨#[224, 128]⟩, .string ⟨#[237, 160, 128]⟩, .string ⟨#[240, 159]⟩, .string ⟨#[240, 159, 152]⟩, .string ⟨#[244, 144]⟩, .string ⟨#[245]⟩, .string ⟨#[224, 160]⟩] 9) := ⟨_, rfl⟩
  have hsh : ∀ i, i < 20 -> Short W w.heap.size i := by
   intro i hi
   rw [hW]
   unfold Short
   rcases (show i = 0 \/ i = 1 \/ i = 2 \/ i = 3 \/ i = 4 \/ i = 5 \/ i = 6 \/ i = 7 \/ i = 8 \/ i = 9 \/ i = 10 \/ i = 11 \/ i = 12 \/ i = 13 \/ i = 14 \/ i = 15 \/ i = 16 \/ i = 17 \/ i = 18 \/ i = 19 by omega) with rfl | rfl | rfl | rfl | rfl | rfl | rfl | rfl | rfl | rfl | rfl | rfl | rfl | rfl | rfl | rfl | rfl | rfl | rfl | rfl <;> (refine ⟨_, ?_, (by simp [go_sem]; rfl)⟩; decide)
  have hbW : Below w.heap.size w W := by rw [hW]; exact (Below.refl _ _).alloc (Nat.le_refl _) _
  have hwz : w.heap.size < W.heap.size := by rw [hW]; simp
  rw [<- hW]
  have HSH := Lib.hid hsh; have HBW := Lib.hid hbW
  clear hsh hbW hW
  go_loopw [6, 7] (fun s i wr => ∃ (k : Nat) (S : ByteArray), k <= len0 /\ k <= 40 /\ i = .int .i64 k /\ s = .string S /\ S.size <= 4 * k /\ wr = W) (fun _ i _ => len0 - (intOf i).toNat)
  case atStart => exact ⟨0, _, Nat.zero_le _, by omega, rfl, rfl, by decide, rfl⟩
  case round =>
   obtain ⟨k, S, hk, hk40, rfl, rfl, hS, rfl⟩ := hrel
   have k0 : (0 : Int) <= (k : Int) := Int.natCast_nonneg _
   by_cases hgo : k < len0 /\ k < 40 /\ S.size < 1000
   ·obtain ⟨hlt, h40, h1000⟩ := hgo
    obtain ⟨b, off, rfl, hbs, hc, hwf⟩ := HR0.out.at k hlt
    have hx : wr.cell? ⟨b, off + k, none⟩ = some (.int .i64 (z0.getD k 0)) := by
     have h1 := (ubcell (HW0.out.trans (HBW.out.mono hw0z))).1 b (off + k) hbs
     rw [h1]; exact hc k hlt
    have WX := hwf k hlt
    have WX32 := Lib.hid (tdiv_wf _ 32 (by omega) WX)
    have WX256 := Lib.hid (tdiv_wf _ 256 (by omega) WX)
    have hbx := bounds_i64 WX
    have WX := Lib.hid WX
    clear hc hwf
    generalize z0.getD k 0 = x at *
    have k1 : (k : Int) < (len0 : Int) := by omega
    have x0 : 0 <= x % 20 := by omega
    have x1 : x % 20 < 20 := by omega
    obtain ⟨j, hj⟩ : ∃ j : Nat, x % 20 = (j : Int) := ⟨(x % 20).toNat, by omega⟩
    obtain ⟨T, hT, hcT⟩ := HSH.out j (by omega)
    have j0 : (0 : Int) <= (j : Int) := Int.natCast_nonneg _
    have j1 : (j : Int) < 20 := by omega
    have HJ := Lib.hid hj; clear hj x0 x1
    have hST : (S ++ T).size = S.size + T.size := ByteArray.size_append
    have HST := Lib.hid hST; clear hST
    have hm : ∃ m : Nat, (x.tdiv 256) % ((len1 : Int) + 1) = (m : Int) /\ m <= len1 := by
     have h0 : 0 <= (x.tdiv 256) % ((len1 : Int) + 1) := Int.emod_nonneg _ (by omega)
     have h1 : (x.tdiv 256) % ((len1 : Int) + 1) < (len1 : Int) + 1 := Int.emod_lt_of_pos _ (by omega)
     exact ⟨((x.tdiv 256) % ((len1 : Int) + 1)).toNat, by omega, by omega⟩
    obtain ⟨m, hm, hml⟩ := hm
    have m0 : (0 : Int) <= (m : Int) := Int.natCast_nonneg _
    have m1 : (m : Int) <= (len1 : Int) := by omega
    have HM := Lib.hid hm; clear hm
    by_cases h8 : (x.tdiv 32) % 8 = 0
    ·have t8 : (((x.tdiv 32) % 8) == 0) = true := by simpa using h8
     have h9 : ((S ++ T) ++ strOfNums (z1.take m)).size <= 4 * (k + 1) := by
      rw [ByteArray.size_append, HST.out, strOfNums_size, List.length_take]; omega
     have H9 := Lib.hid h9
     have h10 : (strOfNums (z1.take m)).size <= 250 := by rw [strOfNums_size, List.length_take]; omega
     have h11 : (S ++ T).size <= 1004 := by rw [HST.out]; omega
     clear h8 h9
     go_wp2_with fail
     refine (uwithin_any x 20 _ WX.out (by omega) (by omega)).mono ?_; rintro e w' ⟨rfl, rfl⟩
     rw [HJ.out]
     go_wp2_with fail
     refine (uwithin_any _ 8 _ WX32.out (by omega) (by omega)).mono ?_; rintro e w' ⟨rfl, rfl⟩
     go_wp2_with fail
     refine (uwithin_any _ ((len1 : Int) + 1) _ WX256.out (by omega) (by omega)).mono ?_; rintro e w' ⟨rfl, rfl⟩
     rw [HM.out]
     go_wp2_with fail
     rw [conv_row HR1.out hml (HW0.out.trans (HBW.out.mono hw0z))]
     simp only [Result.andThen]
     rw [Oper.upon_value]
     go_wp2_with fail
     exact ⟨⟨k + 1, _, by omega, by omega, by go_num, rfl, H9.out, by trivial⟩, by simp [intOf]; omega⟩
    ·have t8 : (((x.tdiv 32) % 8) == 0) = false := by simpa using h8
     have h9 : (S ++ T).size <= 4 * (k + 1) := by rw [HST.out]; omega
     have H9 := Lib.hid h9; clear h8 h9
     go_wp2_with fail
     refine (uwithin_any x 20 _ WX.out (by omega) (by omega)).mono ?_; rintro e w' ⟨rfl, rfl⟩
     rw [HJ.out]
     go_wp2_with fail
     refine (uwithin_any _ 8 _ WX32.out (by omega) (by omega)).mono ?_; rintro e w' ⟨rfl, rfl⟩
     go_wp2_with fail
     exact ⟨⟨k + 1, _, by omega, by omega, by go_num, rfl, H9.out, by trivial⟩, by simp [intOf]; omega⟩
   ·have hd : (len0 <= k /\ decide ((k : Int) < (len0 : Int)) = false) \/ (k < len0 /\ 40 <= k /\ decide ((k : Int) < 40) = false) \/ (k < len0 /\ k < 40 /\ 1000 <= S.size /\ decide ((S.size : Int) < 1000) = false) := by simp; omega
    clear hgo
    rcases hd with ⟨d1, d2⟩ | ⟨d1, d2, d3⟩ | ⟨d1, d2, d3, d4⟩
    all_goals (try go_wp2_with fail)
    all_goals
     go_ret
     exact ⟨S, rfl, (by omega), HBW.out⟩
end Go.Proofs.Ytacgakkcpmhgmaa
