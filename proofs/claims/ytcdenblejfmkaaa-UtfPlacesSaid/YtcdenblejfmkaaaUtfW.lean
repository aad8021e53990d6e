/- Contract of the law texts' Bytes: some string, of at most 1300 bytes. -/
import Derived.Test.YtcdenblejfmkaaaUtfV
import Derived.Laws.BytesArg
namespace Go.Proofs.Ytcdenblejfmkaaa
open Go.RowKit Go.Proofs
set_option linter.unusedVariables false

theorem IsRow.cap_le {k : IntKind} {w : World} {a : Option Addr} {len cap : Nat} {zs : List Int} (h : IsRow k w a len cap zs) : len ≤ cap ∧ cap ≤ 9223372036854775807 := by
  rcases h with ⟨_, h2, h3, _⟩ | ⟨x, _, h2, h3, _⟩
  · omega
  · unfold maxLen at h3; omega
theorem loadCells_zero (P : Program) (w : World) (a : Addr) : (loadCells a 0).run P w = .ok #[] w :=
  run_loadCells_list (P := P) w a [] (fun j v hj => by simp at hj)
theorem conv_zero (w : World) (a : Option Addr) (c : Nat) : (convert 23 9 (.slice a 0 c)).run Try.prog w = .ok (.string (strOfNums [])) w := by
  cases a with
  | none => exact run_convert_bytes_nil w 23 5 Try.underlying23 Try.underlying5 0 c _ Try.underlying9
  | some x =>
    rw [run_convert_bytes_string w _ _ _ _ 0 c Try.underlying23 Try.underlying5 Try.underlying9, run_bytesToString w x 0 c [] (loadCells_zero _ w x)]
    rfl
/-- A front of bytes that came in, as a string. -/
theorem conv_row {w W : World} {a : Option Addr} {len cap m : Nat} {zs : List Int} (h : IsRow .u8 w a len cap zs) (hm : m ≤ len) (hb : Below w.heap.size w W) :
    (convert 23 9 (.slice a m cap)).run Try.prog W = .ok (.string (strOfNums (zs.take m))) W := by
  by_cases h0 : m = 0
  · subst h0; exact conv_zero W a cap
  · have hl := h.len_le
    obtain ⟨b, off, rfl, hbs, hc, _⟩ := h.at 0 (by omega)
    refine run_convert_bytes_arg W 23 5 Try.underlying23 Try.underlying5 b off m cap (zs.take m) (by rw [List.length_take]; omega) (fun i hi => ?_) _ Try.underlying9
    rw [hb.cell (p := ⟨b, off + i, none⟩) hbs, getD_take _ _ _ hi]
    exact hc i (by omega)

/-- The world and a string's cell in the table of the law text: some short string. -/
def Short (w : World) (b i : Nat) : Prop := ∃ S : ByteArray, S.size ≤ 4 ∧ w.cell? ⟨b, i, none⟩ = some (.string S)

theorem tdiv_wf (n d : Int) (hd : 0 < d) (w : (Lit.int .i64 n).wf = true) : (Lit.int .i64 (n.tdiv d)).wf = true := by
  have hb := bounds_i64 w
  refine WalkArith.wf_i64 ?_
  have key : ∀ a : Int, 0 ≤ a → 0 ≤ a.tdiv d ∧ a.tdiv d ≤ a := fun a ha => by
    rw [Int.tdiv_eq_ediv_of_nonneg ha]
    exact ⟨Int.ediv_nonneg ha (by omega), Int.ediv_le_self _ ha⟩
  rcases Int.lt_or_le n 0 with h | h
  · have h1 := key (-n) (by omega)
    rw [Int.neg_tdiv] at h1
    omega
  · have h1 := key n h
    omega

set_option maxRecDepth 100000 in
set_option maxHeartbeats 1000000 in
theorem bytes_any (a0 : Option Addr) (len0 cap0 : Nat) (z0 : List Int) (a1 : Option Addr) (len1 cap1 : Nat) (z1 : List Int) (w0 w : World) (hw0 : Below w0.heap.size w0 w) (r0 : IsRow .i64 w0 a0 len0 cap0 z0) (r1 : IsRow .u8 w0 a1 len1 cap1 z1) (h200 : len1 ≤ 200) :
    Calls Try.prog 13 #[.slice a0 len0 cap0, .slice a1 len1 cap1] w fun e w' => ∃ S : ByteArray, e = .returned (.string S) ∧ S.size ≤ 1300 ∧ Below w.heap.size w w' := by
  have hle := r0.len_le
  have hcap := r1.cap_le
  have hw0z := hw0.size
  have HW0 := Lib.hid hw0
  have HR0 := Lib.hid r0; have HR1 := Lib.hid r1; clear r0 r1 hw0
  go_enter Try.func13, Try.ntmps13
  go_wp2_with fail
  obtain ⟨W, hW⟩ : ∃ W : World, W = w.alloc (.cells #[.string ⟨#[97]⟩, .string ⟨#[90]⟩, .string ⟨#[32]⟩, .string ⟨#[195, 164]⟩, .string ⟨#[226, 130, 172]⟩, .string ⟨#[228, 184, 128]⟩, .string ⟨#[240, 159, 152, 128]⟩, .string ⟨#[239, 191, 189]⟩, .string ⟨#[128]⟩, .string ⟨#[255]⟩, .string ⟨#[195]⟩, .string ⟨#[192, 128]⟩, .string ⟨#[226, 130]⟩, .string ⟨#[224, 128]⟩, .string ⟨#[237, 160, 128]⟩, .string ⟨#[240, 159]⟩, .string ⟨#[240, 159, 152]⟩, .string ⟨#[244, 144]⟩, .string ⟨#[245]⟩, .string ⟨#[224, 160]⟩] 9) := ⟨_, rfl⟩
  have hsh : ∀ i, i < 20 → Short W w.heap.size i := by
    intro i hi
    rw [hW]
    unfold Short
    rcases (show i = 0 ∨ i = 1 ∨ i = 2 ∨ i = 3 ∨ i = 4 ∨ i = 5 ∨ i = 6 ∨ i = 7 ∨ i = 8 ∨ i = 9 ∨ i = 10 ∨ i = 11 ∨ i = 12 ∨ i = 13 ∨ i = 14 ∨ i = 15 ∨ i = 16 ∨ i = 17 ∨ i = 18 ∨ i = 19 by omega) with rfl | rfl | rfl | rfl | rfl | rfl | rfl | rfl | rfl | rfl | rfl | rfl | rfl | rfl | rfl | rfl | rfl | rfl | rfl | rfl <;> (refine ⟨_, ?_, (by simp [go_sem]; rfl)⟩; decide)
  have hbW : Below w.heap.size w W := by rw [hW]; exact (Below.refl _ _).alloc (Nat.le_refl _) _
  have hwz : w.heap.size < W.heap.size := by rw [hW]; simp
  rw [← hW]
  have HSH := Lib.hid hsh; have HBW := Lib.hid hbW
  clear hsh hbW hW
  go_loopw [6, 7] (fun s i wr => ∃ (k : Nat) (S : ByteArray), k ≤ len0 ∧ k ≤ 40 ∧ i = .int .i64 k ∧ s = .string S ∧ S.size ≤ 1300 ∧ wr = W) (fun _ i _ => len0 - (intOf i).toNat)
  case atStart => exact ⟨0, _, Nat.zero_le _, by omega, rfl, rfl, by decide, rfl⟩
  case round =>
    obtain ⟨k, S, hk, hk40, rfl, rfl, hS, rfl⟩ := hrel
    have k0 : (0 : Int) ≤ (k : Int) := Int.natCast_nonneg _
    by_cases hgo : k < len0 ∧ k < 40 ∧ S.size < 1000
    · obtain ⟨hlt, h40, h1000⟩ := hgo
      obtain ⟨b, off, rfl, hbs, hc, hwf⟩ := HR0.out.at k hlt
      have hx : wr.cell? ⟨b, off + k, none⟩ = some (.int .i64 (z0.getD k 0)) := by
        have h1 := (bcell (HW0.out.trans (HBW.out.mono hw0z))).1 b (off + k) hbs
        rw [h1]; exact hc k hlt
      have WX := hwf k hlt
      have WX32 := Lib.hid (tdiv_wf _ 32 (by omega) WX)
      have WX256 := Lib.hid (tdiv_wf _ 256 (by omega) WX)
      have hbx := bounds_i64 WX
      have WX := Lib.hid WX
      clear hc hwf
      generalize z0.getD k 0 = x at *
      have k1 : (k : Int) < (len0 : Int) := by omega
      have x0 : 0 ≤ x % 20 := by omega
      have x1 : x % 20 < 20 := by omega
      obtain ⟨j, hj⟩ : ∃ j : Nat, x % 20 = (j : Int) := ⟨(x % 20).toNat, by omega⟩
      obtain ⟨T, hT, hcT⟩ := HSH.out j (by omega)
      have j0 : (0 : Int) ≤ (j : Int) := Int.natCast_nonneg _
      have j1 : (j : Int) < 20 := by omega
      have HJ := Lib.hid hj; clear hj x0 x1
      have hST : (S ++ T).size = S.size + T.size := ByteArray.size_append
      have HST := Lib.hid hST; clear hST
      have hm : ∃ m : Nat, (x.tdiv 256) % ((len1 : Int) + 1) = (m : Int) ∧ m ≤ len1 := by
        have h0 : 0 ≤ (x.tdiv 256) % ((len1 : Int) + 1) := Int.emod_nonneg _ (by omega)
        have h1 : (x.tdiv 256) % ((len1 : Int) + 1) < (len1 : Int) + 1 := Int.emod_lt_of_pos _ (by omega)
        exact ⟨((x.tdiv 256) % ((len1 : Int) + 1)).toNat, by omega, by omega⟩
      obtain ⟨m, hm, hml⟩ := hm
      have m0 : (0 : Int) ≤ (m : Int) := Int.natCast_nonneg _
      have m1 : (m : Int) ≤ (len1 : Int) := by omega
      have HM := Lib.hid hm; clear hm
      by_cases h8 : (x.tdiv 32) % 8 = 0
      · have t8 : (((x.tdiv 32) % 8) == 0) = true := by simpa using h8
        have h9 : ((S ++ T) ++ strOfNums (z1.take m)).size ≤ 1300 := by
          rw [ByteArray.size_append, HST.out, strOfNums_size, List.length_take]; omega
        have H9 := Lib.hid h9
        have h10 : (strOfNums (z1.take m)).size ≤ 200 := by rw [strOfNums_size, List.length_take]; omega
        have h11 : (S ++ T).size ≤ 1004 := by rw [HST.out]; omega
        clear h8 h9
        go_wp2_with fail
        refine (within_any x 20 _ WX.out (by omega) (by omega)).mono ?_; rintro e w' ⟨rfl, rfl⟩
        rw [HJ.out]
        go_wp2_with fail
        refine (within_any _ 8 _ WX32.out (by omega) (by omega)).mono ?_; rintro e w' ⟨rfl, rfl⟩
        go_wp2_with fail
        refine (within_any _ ((len1 : Int) + 1) _ WX256.out (by omega) (by omega)).mono ?_; rintro e w' ⟨rfl, rfl⟩
        rw [HM.out]
        go_wp2_with fail
        rw [conv_row HR1.out hml (HW0.out.trans (HBW.out.mono hw0z))]
        simp only [Result.andThen]
        rw [Oper.upon_value]
        go_wp2_with fail
        exact ⟨⟨k + 1, _, by omega, by omega, by go_num, rfl, H9.out, by trivial⟩, by simp [intOf]; omega⟩
      · have t8 : (((x.tdiv 32) % 8) == 0) = false := by simpa using h8
        have h9 : (S ++ T).size ≤ 1300 := by rw [HST.out]; omega
        have H9 := Lib.hid h9; clear h8 h9
        go_wp2_with fail
        refine (within_any x 20 _ WX.out (by omega) (by omega)).mono ?_; rintro e w' ⟨rfl, rfl⟩
        rw [HJ.out]
        go_wp2_with fail
        refine (within_any _ 8 _ WX32.out (by omega) (by omega)).mono ?_; rintro e w' ⟨rfl, rfl⟩
        go_wp2_with fail
        exact ⟨⟨k + 1, _, by omega, by omega, by go_num, rfl, H9.out, by trivial⟩, by simp [intOf]; omega⟩
    · have hd : (len0 ≤ k ∧ decide ((k : Int) < (len0 : Int)) = false) ∨ (k < len0 ∧ 40 ≤ k ∧ decide ((k : Int) < 40) = false) ∨ (k < len0 ∧ k < 40 ∧ 1000 ≤ S.size ∧ decide ((S.size : Int) < 1000) = false) := by simp; omega
      clear hgo
      rcases hd with ⟨d1, d2⟩ | ⟨d1, d2, d3⟩ | ⟨d1, d2, d3, d4⟩
      all_goals
        go_wp2_with fail
        go_ret
        exact ⟨S, rfl, hS, HBW.out⟩

end Go.Proofs.Ytcdenblejfmkaaa
