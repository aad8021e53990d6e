/- Contracts of syn's reading of a scalar by its number, and of the first sign of a text. Contracts of syn's reader: the next sign, a step, a fault, a sign taken, brackets entered and left: what they leave in the reader's cells. -/
import Derived.Test.YtalgnnidhnhciaaGreatDoorUSynC
import Derived.Deep.RegionHeld3
import Derived.Lib.IndexBytes
set_option linter.unusedVariables false
set_option linter.unusedSimpArgs false
set_option maxRecDepth 100000
set_option maxHeartbeats 4000000
namespace Go.Proofs.YtalgnnidhnhciaaGreatDoor
open Go Go.RowKit
theorem ix_pos (l : List UInt8) (c : UInt8) : 0 <= Lib.indexByte l c ↔ c ∈ l := by
 induction l with
 | nil => simp [Lib.indexByte]
 | cons b r ih =>
   have := Lib.indexByte_ge r c
   simp only [Lib.indexByte, List.mem_cons]
   by_cases h : b = c
   ·subst h; simp
   ·have h1 : (b == c) = false := by simpa using h
    have h2 : c ≠ b := fun e => h e.symm
    simp only [h1, Bool.false_eq_true, if_false, h2, false_or, <- ih]
    by_cases h3 : Lib.indexByte r c = -1
    ·simp [h3]
    ·have h4 : (Lib.indexByte r c == -1) = false := by simpa using h3
     simp only [h4, Bool.false_eq_true, if_false]
     omega
theorem mark_ix (c : UInt8) : decide (0 <= Lib.indexByte [123, 125, 40, 41, 61, 59, 58, 47, 124, 38, 33, 45, 42, 64, 46, 44, 63] c) = markB c := by
 unfold markB
 rw [Bool.eq_iff_iff]
 simp only [decide_eq_true_eq, ix_pos, List.contains_iff_mem]
theorem small_of (x : ByteArray) : x.size = x.data.toList.length := rfl
theorem coded_any (s : ByteArray) (w : World) (hs : s.size <= 1000000000) (r : List UInt8) (h85 : s.data.toList = 85 :: r) : Calls Tryz.prog 123 #[.string s] w (FirstR (codeS s.data.toList) w) := by
 have hcut := fun W => Tryz.strings_CutPrefix s ⟨#[85, 43]⟩ W
 have hp2 : (⟨#[85, 43]⟩ : ByteArray).data.toList = [85, 43] := rfl
 rw [hp2] at hcut
 obtain ⟨P, hP⟩ : ∃ P, Lib.hasPrefix s.data.toList [85, 43] = P := ⟨_, rfl⟩
 obtain ⟨h, hh⟩ : ∃ h, Lib.trimPrefix s.data.toList [85, 43] = h := ⟨_, rfl⟩
 have hcase : (P = true /\ s.data.toList = 85 :: 43 :: h) \/ (P = false /\ codeS s.data.toList = Sg.none) := by
  cases r with
  | nil => right; rw [h85] at hP ⊢; exact ⟨by rw [<- hP]; rfl, rfl⟩
  | cons x t =>
    rw [h85] at hP hh ⊢
    by_cases hx : x = 43
    ·subst hx
     left
     have e : Lib.hasPrefix (85 :: 43 :: t) [85, 43] = true := by simp [Lib.hasPrefix, List.isPrefixOf]
     refine ⟨by rw [<- hP, e], ?_⟩
     rw [<- hh]; unfold Lib.trimPrefix; rw [e]; rfl
    ·right
     have hx' : (x == 43) = false := by simpa using hx
     refine ⟨by rw [<- hP]; simp [Lib.hasPrefix, List.isPrefixOf]; exact fun e => hx e.symm, ?_⟩
     simp [codeS, hx']
 have hhl : h.length <= s.size := by
  rw [<- hh]; unfold Lib.trimPrefix
  have : s.data.toList.length = s.size := rfl
  split
  ·rw [List.length_drop]; omega
  ·omega
 rw [hP, hh] at hcut
 clear hP hh h85
 obtain ⟨X, hX⟩ : ∃ X : ByteArray, (⟨h.toArray⟩ : ByteArray) = X := ⟨_, rfl⟩
 have hXl : X.data.toList = h := by rw [<- hX]
 have hXs : X.size = h.length := by rw [<- hX]; simp [ByteArray.size]
 rw [hX] at hcut
 have hXb : X.size <= 1000000000 := by omega
 -- the six bytes at most, the digits among them
 obtain ⟨m, hm, hmc⟩ : ∃ m : Nat, m = min X.size 6 /\ ((X.size <= 6 /\ m = X.size) \/ (6 < X.size /\ m = 6)) := ⟨_, rfl, by omega⟩
 obtain ⟨Y, hY⟩ : ∃ Y, X.extract 0 (min (X.size : Int) 6).toNat = Y := ⟨_, rfl⟩
 have hm' : (min (X.size : Int) 6).toNat = m := by omega
 have hYl : Y.data.toList = h.take 6 := by
  rw [<- hY, hm', take_extract, hXl]
  rcases hmc with ⟨a, b⟩ | ⟨a, b⟩
  ·rw [b, hXs, List.take_of_length_le (by omega), List.take_of_length_le (by omega)]
  ·rw [b]
 have hYs : Y.size <= 1000000000 := by rw [small_of, hYl, List.length_take]; omega
 have hrun := fun W => run_hex Y W hYs
 rw [hYl] at hrun
 obtain ⟨T, hT⟩ : ∃ T, ((h.take 6).takeWhile hexB).length = T := ⟨_, rfl⟩
 rw [hT] at hrun
 have hT6 : T <= 6 := by have := tw_len hexB (h.take 6); rw [hT, List.length_take] at this; omega
 have hTX : T <= X.size := by have := tw_len hexB (h.take 6); rw [hT, List.length_take] at this; omega
 obtain ⟨Z, hZ⟩ : ∃ Z, X.extract 0 T = Z := ⟨_, rfl⟩
 have hZl : Z.data.toList = (h.take 6).takeWhile hexB := by
  rw [<- hZ, take_extract, hXl]
  have := tw_take hexB (h.take 6)
  rw [hT, List.take_take, Nat.min_eq_left hT6] at this
  exact this
 have hZs : Z.size = T := by rw [small_of, hZl, hT]
 have hZm : ∀ c ∈ Z.data.toList, hexB c = true := by rw [hZl]; exact tw_mem _ _
 have i0 : (0 : Int) <= (T : Int) := Int.natCast_nonneg _
 have i1 : (T : Int) <= (X.size : Int) := by omega
 have i2 : (T : Int) <= 6 := by omega
 have HY := Lib.hid hY; have HZ := Lib.hid hZ
 have bl : ∀ (o : Obj), Below w.heap.size w (w.alloc o) := fun o => (Below.refl _ _).alloc (Nat.le_refl _) _
 have HBL := Lib.hid bl
 clear hY hZ bl hX hXl hYl hYs hm hm' hmc
 rcases hcase with ⟨rfl, hc⟩ | ⟨rfl, hc⟩
 ·by_cases h0 : T = 0
  ·have hcode : codeS s.data.toList = Sg.none := by
    rw [hc]
    have : ((h.take 6).takeWhile hexB) = [] := List.eq_nil_of_length_eq_zero (by omega)
    simp [codeS, this]
   rw [hcode]
   subst h0
   clear hcode hZl hZm hT hc hZs HZ hXs hhl
   all_goals
    go_enter Tryz.func123, Tryz.ntmps123
    go_wp2_with (refine (hcut _).mono ?_; rintro e w1 ⟨rfl, rfl⟩)
    rw [HY.out]
    refine (hrun _).mono ?_
    rintro e w1 ⟨rfl, rfl⟩
    go_wp2_with fail
    refine bodyPost_ret (v := .tuple #[.agg #[.int .i64 257, .int .i64 0, .string ⟨#[]⟩, .int .i64 0, .bool false], .int .i64 1]) (by simp [results, Tryz.results123, go_sem]) rfl ?_
    exact FirstR.none_ (HBL.out _)
  ·have hpi := fun W => parseInt16 Z (by omega) (by omega) hZm W
   have hV : hexOf Z.data.toList < 16777216 := by
    have := hexOf_lt Z.data.toList T hZm
    rw [List.take_of_length_le (by rw [<- small_of]; omega)] at this
    exact Nat.lt_of_lt_of_le this (Nat.pow_le_pow_right (n := 16) (by omega) hT6)
   obtain ⟨V, hVe⟩ : ∃ V, hexOf Z.data.toList = V := ⟨_, rfl⟩
   rw [hVe] at hpi hV
   have fin : ∀ w1, Below w.heap.size w w1 -> FirstR (codeS s.data.toList) w (.returned (.tuple #[.agg #[.int .i64 260, .int .i64 0, .string ⟨#[]⟩, .int .i64 V, .bool (decide ((1114111 : Int) < (V : Int)))], .int .i64 (2 + (T : Int))])) w1 := by
    intro w1 hb
    have hne : Z.data.toList.isEmpty = false := by
     rw [hZl]
     cases hq : (h.take 6).takeWhile hexB with
     | nil => rw [hq] at hT; simp at hT; omega
     | cons a b => rfl
    have e : codeS s.data.toList = ⟨260, [], V, Nat.blt 1114111 V, 2 + T⟩ := by
     rw [hc]
     simp only [codeS, <- hZl, hne, hVe]
     rw [<- hZs, small_of]; rfl
    rw [e]
    refine FirstR.mk' _ _ _ _ _ rfl ?_ ?_ rfl (fun _ => rfl) hb
    ·show _ = Nat.blt 1114111 V
     rw [show Nat.blt 1114111 V = Nat.ble (1114111 + 1) V from rfl, ble_dec, decide_eq_decide]; omega
    ·show (2 + (T : Int)) = ((2 + T : Nat) : Int)
     omega
   have FIN := Lib.hid fin
   have j0 : ((T : Int) == 0) = false := by simp; omega
   clear fin hZl hZm hVe hT hc hZs h0 hXs hhl
   all_goals
    go_enter Tryz.func123, Tryz.ntmps123
    go_wp2_with (refine (hcut _).mono ?_; rintro e w1 ⟨rfl, rfl⟩)
    rw [HY.out]
    refine (hrun _).mono ?_
    rintro e w1 ⟨rfl, rfl⟩
    go_wp2_with fail
    rw [HZ.out]
    refine (hpi _).mono ?_
    rintro e w1 ⟨rfl, hb⟩
    obtain ⟨hc1, hf1⟩ := bcell hb
    have hz : w.heap.size + 1 <= w1.heap.size := by have := hb.size; simpa using this
    go_wp2_with fail
    refine bodyPost_ret (v := .tuple #[.agg #[.int .i64 260, .int .i64 0, .string ⟨#[]⟩, .int .i64 V, .bool (decide ((1114111 : Int) < (V : Int)))], .int .i64 (2 + (T : Int))]) (by simp [results, Tryz.results123, go_sem, hc1]) rfl ?_
    exact FIN.out _ (five_cells hb)
 ·rw [hc]
  clear hc hZl hZm hT hZs HZ hXs hhl
  all_goals
   go_enter Tryz.func123, Tryz.ntmps123
   go_wp2_with (refine (hcut _).mono ?_; rintro e w1 ⟨rfl, rfl⟩)
   rw [HY.out]
   refine (hrun _).mono ?_
   rintro e w1 ⟨rfl, rfl⟩
   go_wp2_with fail
   refine bodyPost_ret (v := .tuple #[.agg #[.int .i64 257, .int .i64 0, .string ⟨#[]⟩, .int .i64 0, .bool false], .int .i64 1]) (by simp [results, Tryz.results123, go_sem]) rfl ?_
   exact FirstR.none_ (HBL.out _)
theorem nonempty_of (s : ByteArray) (h : 0 < s.size) : ∃ c r, s.data.toList = c :: r /\ s[0] = c := by
 have h1 := getE s 0 h
 cases hq : s.data.toList with
 | nil => rw [hq] at h1; simp at h1
 | cons c r => rw [hq] at h1; exact ⟨c, r, rfl, by simpa using h1.symm⟩
theorem empty_of (s : ByteArray) (h : s.size = 0) : s = ⟨#[]⟩ := bytes_eq s [] (List.eq_nil_of_length_eq_zero h)
theorem first_any (s : ByteArray) (w : World) (hs : s.size <= 1000000000) (hE : ErrV w) : Calls Tryz.prog 98 #[.string s] w (FirstR (lexS s.data.toList) w) := by
 have bl : ∀ (o : Obj), Below w.heap.size w (w.alloc o) := fun o => (Below.refl _ _).alloc (Nat.le_refl _) _
 have HBL := Lib.hid bl; clear bl
 by_cases h0 : s.size = 0
 ·have he := empty_of s h0
  subst he
  have hx : lexS (⟨#[]⟩ : ByteArray).data.toList = ⟨256, [], 0, false, 0⟩ := rfl
  rw [hx]
  clear h0
  go_enter Tryz.func98, Tryz.ntmps98
  go_wp2_with fail
  refine bodyPost_ret (v := .tuple #[.agg #[.int .i64 256, .int .i64 0, .string ⟨#[]⟩, .int .i64 0, .bool false], .int .i64 0]) (by simp [results, Tryz.results98, go_sem]) rfl ?_
  exact FirstR.mk' _ _ _ _ _ rfl rfl rfl rfl (fun _ => rfl) (HBL.out _)
 ·have hpos : 0 < s.size := by omega
  obtain ⟨c, r, hcr, hc0⟩ := nonempty_of s hpos
  have hsm := fun W => isSmall_any (s[0]'hpos) W
  have hdg := fun W => isDigit_any (s[0]'hpos) W
  have hne : (s.toList == []) = false := by rw [ByteArray.toList_eq, hcr]; rfl
  have hemp : s.toList.isEmpty = false := by rw [ByteArray.toList_eq, hcr]; rfl
  have ip : (0 : Int) < (s.size : Int) := by omega
  clear h0
  have hlx : lexS s.data.toList = if smallB c then wordS s.data.toList else if digB c then digS s.data.toList else if c == 39 then quotS s.data.toList else if c == 85 then codeS s.data.toList else if markB c then ⟨c.toNat, [], 0, false, 1⟩ else Sg.none := by
   rw [hcr]; rfl
  rw [hc0] at hsm hdg
  rw [hlx]
  by_cases q1 : smallB c = true
  ·rw [if_pos q1]
   rw [q1] at hsm
   have hw := fun W => word_any s W hs
   have HC := Lib.hid hc0; clear hc0 q1 hlx hcr hdg
   generalize wordS s.data.toList = g at *
   rw [<- HC.out] at hsm
   go_enter Tryz.func98, Tryz.ntmps98
   go_wp2_with (refine (hsm _).mono ?_; rintro e w1 ⟨rfl, rfl⟩)
   refine (hw _).mono ?_
   rintro e w1 ⟨wd, n, rfl, e1, e2, hb⟩
   have E1 := Lib.hid e1; have E2 := Lib.hid e2; clear e1 e2
   obtain ⟨hc1, hf1⟩ := bcell hb
   have hz : w.heap.size + 1 <= w1.heap.size := by have := hb.size; simpa using this
   go_wp2_with fail
   refine bodyPost_ret (v := .tuple #[.agg #[.int .i64 g.kind, .int .i64 0, .string wd, .int .i64 n, .bool g.large], .int .i64 g.size]) (by simp [results, Tryz.results98, go_sem, hc1]) rfl ?_
   exact ⟨wd, n, rfl, E1.out, E2.out, five_cells hb⟩
  have q1' : smallB c = false := by simpa using q1
  rw [if_neg q1]
  rw [q1'] at hsm
  by_cases q2 : digB c = true
  ·rw [if_pos q2]
   rw [q2] at hdg
   have hpw : 0 < (s.data.toList.takeWhile digB).length := by rw [hcr, List.takeWhile_cons_of_pos q2]; simp
   have hw := fun W hE' => digits_any s W hs hpw hE'
   have HC := Lib.hid hc0; clear hc0 q1 q1' q2 hlx hcr hpw
   generalize digS s.data.toList = g at *
   rw [<- HC.out] at hsm hdg
   go_enter Tryz.func98, Tryz.ntmps98
   go_wp2_with (refine (hsm _).mono ?_; rintro e w1 ⟨rfl, rfl⟩)
   refine (hdg _).mono ?_
   rintro e w1 ⟨rfl, rfl⟩
   go_wp2_with fail
   refine (hw _ (hE.alloc _)).mono ?_
   rintro e w1 ⟨wd, n, rfl, e1, e2, hb⟩
   have E1 := Lib.hid e1; have E2 := Lib.hid e2; clear e1 e2
   obtain ⟨hc1, hf1⟩ := bcell hb
   have hz : w.heap.size + 1 <= w1.heap.size := by have := hb.size; simpa using this
   go_wp2_with fail
   refine bodyPost_ret (v := .tuple #[.agg #[.int .i64 g.kind, .int .i64 0, .string wd, .int .i64 n, .bool g.large], .int .i64 g.size]) (by simp [results, Tryz.results98, go_sem, hc1]) rfl ?_
   exact ⟨wd, n, rfl, E1.out, E2.out, five_cells hb⟩
  have q2' : digB c = false := by simpa using q2
  rw [if_neg q2]
  rw [q2'] at hdg
  have e39 : (c == 39) = decide (c.toNat = 39) := u8_eq c 39 (by omega)
  have e85 : (c == 85) = decide (c.toNat = 85) := u8_eq c 85 (by omega)
  rw [e39, e85]
  have hcN : ((s[0]'hpos).toNat : Int) = (c.toNat : Int) := by rw [hc0]
  by_cases q3 : c.toNat = 39
  ·rw [if_pos (by simpa using q3)]
   have hw := fun W => quoted_any s W hs
   have x0 : (((s[0]'hpos).toNat : Int) == 39) = true := by simp; omega
   have HC := Lib.hid hc0; clear hc0 q1 q1' q2 q2' hlx hcr hcN q3 e39 e85
   generalize quotS s.data.toList = g at *
   rw [<- HC.out] at hsm hdg
   go_enter Tryz.func98, Tryz.ntmps98
   go_wp2_with (refine (hsm _).mono ?_; rintro e w1 ⟨rfl, rfl⟩)
   refine (hdg _).mono ?_
   rintro e w1 ⟨rfl, rfl⟩
   go_wp2_with fail
   refine (hw _).mono ?_
   rintro e w1 ⟨wd, n, rfl, e1, e2, hb⟩
   have E1 := Lib.hid e1; have E2 := Lib.hid e2; clear e1 e2
   obtain ⟨hc1, hf1⟩ := bcell hb
   have hz : w.heap.size + 1 <= w1.heap.size := by have := hb.size; simpa using this
   go_wp2_with fail
   refine bodyPost_ret (v := .tuple #[.agg #[.int .i64 g.kind, .int .i64 0, .string wd, .int .i64 n, .bool g.large], .int .i64 g.size]) (by simp [results, Tryz.results98, go_sem, hc1]) rfl ?_
   exact ⟨wd, n, rfl, E1.out, E2.out, five_cells hb⟩
  rw [if_neg (by simpa using q3)]
  have x0 : (((s[0]'hpos).toNat : Int) == 39) = false := by simp; omega
  by_cases q4 : c.toNat = 85
  ·rw [if_pos (by simpa using q4)]
   have hc85 : c = 85 := by have : c = UInt8.ofNat c.toNat := by simp
                            rw [this, q4]; rfl
   have hw := fun W => coded_any s W hs r (by rw [hcr, hc85])
   have x1 : (((s[0]'hpos).toNat : Int) == 85) = true := by simp; omega
   have HC := Lib.hid hc0; clear hc0 q1 q1' q2 q2' hlx hcr hcN q3 e39 e85 q4 hc85
   generalize codeS s.data.toList = g at *
   rw [<- HC.out] at hsm hdg
   go_enter Tryz.func98, Tryz.ntmps98
   go_wp2_with (refine (hsm _).mono ?_; rintro e w1 ⟨rfl, rfl⟩)
   refine (hdg _).mono ?_
   rintro e w1 ⟨rfl, rfl⟩
   go_wp2_with fail
   refine (hw _).mono ?_
   rintro e w1 ⟨wd, n, rfl, e1, e2, hb⟩
   have E1 := Lib.hid e1; have E2 := Lib.hid e2; clear e1 e2
   obtain ⟨hc1, hf1⟩ := bcell hb
   have hz : w.heap.size + 1 <= w1.heap.size := by have := hb.size; simpa using this
   go_wp2_with fail
   refine bodyPost_ret (v := .tuple #[.agg #[.int .i64 g.kind, .int .i64 0, .string wd, .int .i64 n, .bool g.large], .int .i64 g.size]) (by simp [results, Tryz.results98, go_sem, hc1]) rfl ?_
   exact ⟨wd, n, rfl, E1.out, E2.out, five_cells hb⟩
  rw [if_neg (by simpa using q4)]
  have x1 : (((s[0]'hpos).toNat : Int) == 85) = false := by simp; omega
  have hmk : decide (0 <= Lib.indexByte (⟨#[123, 125, 40, 41, 61, 59, 58, 47, 124, 38, 33, 45, 42, 64, 46, 44, 63]⟩ : ByteArray).data.toList ((s[0]'hpos).toNat : Int).toNat.toUInt8) = markB c := by
   rw [hc0]
   have : ((c.toNat : Int)).toNat.toUInt8 = c := by simp
   rw [this]; exact mark_ix c
  have hix := fun W => Tryz.strings_IndexByte ⟨#[123, 125, 40, 41, 61, 59, 58, 47, 124, 38, 33, 45, 42, 64, 46, 44, 63]⟩ ((s[0]'hpos).toNat : Int) W
  generalize Lib.indexByte (⟨#[123, 125, 40, 41, 61, 59, 58, 47, 124, 38, 33, 45, 42, 64, 46, 44, 63]⟩ : ByteArray).data.toList ((s[0]'hpos).toNat : Int).toNat.toUInt8 = X at *
  by_cases q5 : markB c = true
  ·rw [if_pos q5]
   rw [q5] at hmk
   have hX : 0 <= X := by simpa using hmk
   have HC := Lib.hid hc0; clear hc0 q1 q1' q2 q2' hlx hcr q3 e39 e85 q4 q5 hmk hcN
   rw [<- HC.out] at hsm hdg
   have hcl : ((s[0]'hpos).toNat : Int) < 256 := by have := (s[0]'hpos).toNat_lt; omega
   go_enter Tryz.func98, Tryz.ntmps98
   go_wp2_with (refine (hsm _).mono ?_; rintro e w1 ⟨rfl, rfl⟩)
   refine (hdg _).mono ?_
   rintro e w1 ⟨rfl, rfl⟩
   go_wp2_with fail
   refine (hix _).mono ?_
   rintro e w1 ⟨rfl, rfl⟩
   go_wp2_with fail
   refine bodyPost_ret (v := .tuple #[.agg #[.int .i64 ((s[0]'hpos).toNat : Int), .int .i64 0, .string ⟨#[]⟩, .int .i64 0, .bool false], .int .i64 1]) (by simp [results, Tryz.results98, go_sem]) rfl ?_
   exact FirstR.mk' _ _ _ _ _ (by rw [HC.out]) rfl rfl rfl (fun _ => rfl) (HBL.out _)
  ·rw [if_neg q5]
   have q5' : markB c = false := by simpa using q5
   rw [q5'] at hmk
   have hX : X < 0 := by simpa using hmk
   have HC := Lib.hid hc0; clear hc0 q1 q1' q2 q2' hlx hcr q3 e39 e85 q4 q5 hmk hcN
   rw [<- HC.out] at hsm hdg
   go_enter Tryz.func98, Tryz.ntmps98
   go_wp2_with (refine (hsm _).mono ?_; rintro e w1 ⟨rfl, rfl⟩)
   refine (hdg _).mono ?_
   rintro e w1 ⟨rfl, rfl⟩
   go_wp2_with fail
   refine (hix _).mono ?_
   rintro e w1 ⟨rfl, rfl⟩
   go_wp2_with fail
   refine bodyPost_ret (v := .tuple #[.agg #[.int .i64 257, .int .i64 0, .string ⟨#[]⟩, .int .i64 0, .bool false], .int .i64 1]) (by simp [results, Tryz.results98, go_sem]) rfl ?_
   exact FirstR.none_ (HBL.out _)
end Go.Proofs.YtalgnnidhnhciaaGreatDoor
namespace Go.Proofs.YtalgnnidhnhciaaGreatDoor
open Go Go.RowKit
def Left (w : World) (b : Nat) (s : ByteArray) (p : PS) (w' : World) : Prop := Cel w' b s p /\ w.grownBy w' (some b)
def EndsL (w : World) (b : Nat) (s : ByteArray) (p : PS) (e : Ending) (w' : World) : Prop := e = .returned (.tuple #[]) /\ Left w b s p w'
def Raw (w : World) (b : Nat) (cs : Array Value) (w' : World) : Prop := Blk w' b 97 cs /\ w.grownBy w' (some b)
theorem Raw.set {w w' : World} {b : Nat} {cs : Array Value} (h : Raw w b cs w') (i : Nat) (u : Value) : Raw w b (cs.setIfInBounds i u) (w'.setCell ⟨b, i, none⟩ u) := ⟨Blk.set_ h.1 i u, only_setCell h.2 (.inl rfl) u⟩
theorem Raw.left {w w' : World} {b : Nat} {s : ByteArray} {p : PS} {cs : Array Value} (h : Raw w b cs w') (e : cs = p.cells s) : Left w b s p w' := by subst e; exact h
theorem Cel.raw {w : World} {b : Nat} {s : ByteArray} {p : PS} (h : Cel w b s p) : Raw w b (p.cells s) w := ⟨h, only_refl _ _⟩
theorem Left.raw {w w' : World} {b : Nat} {s : ByteArray} {p : PS} (h : Left w b s p w') : Raw w b (p.cells s) w' := h
def PS.failed (p : PS) (c : Int) : PS :=
 if p.e = 0 then { p with kind := 257, at_ := 0, word := ⟨#[]⟩, n := 0, large := false, place := p.at_, e := c } else { p with kind := 257, at_ := 0, word := ⟨#[]⟩, n := 0, large := false }
theorem fail_any (w : World) (b : Nat) (s : ByteArray) (p : PS) (c : Int) (h : Cel w b s p) :
  Calls Tryz.prog 74 #[.pointer (some ⟨b, 0, none⟩), .int .i64 c] w (EndsL w b s (p.failed c)) := by
  have c3 := h.c3; have c7 := h.c7; have c8 := h.c8; have c2 := h.c2; have c4 := h.c4; have c5 := h.c5; have c6 := h.c6
  have f2 := h.fz 2; have f3 := h.fz 3; have f4 := h.fz 4; have f5 := h.fz 5; have f6 := h.fz 6; have f7 := h.fz 7; have f8 := h.fz 8
  have H := Lib.hid h; clear h
  by_cases he : p.e = 0
  ·have hf : p.failed c = { p with kind := 257, at_ := 0, word := ⟨#[]⟩, n := 0, large := false, place := p.at_, e := c } := by unfold PS.failed; rw [if_pos he]
   rw [he] at c8
   rw [hf]
   have HE := Lib.hid he; clear he hf
   go_enter Tryz.func74, Tryz.ntmps74
   go_wp2_with fail
   go_end0
   exact ⟨rfl, (((((((H.out.raw.set 7 _).set 8 _).set 2 _).set 3 _).set 4 _).set 5 _).set 6 _).left rfl⟩
  ·have hf : p.failed c = { p with kind := 257, at_ := 0, word := ⟨#[]⟩, n := 0, large := false } := by unfold PS.failed; rw [if_neg he]
   rw [hf]
   have q : (p.e == 0) = false := by simpa using he
   clear he hf
   go_enter Tryz.func74, Tryz.ntmps74
   go_wp2_with fail
   go_end0
   exact ⟨rfl, (((((H.out.raw.set 2 _).set 3 _).set 4 _).set 5 _).set 6 _).left rfl⟩
theorem leave_any (w : World) (b : Nat) (s : ByteArray) (p : PS) (h : Cel w b s p) (h0 : 0 <= p.deep) (h1 : p.deep <= 1000) :
  Calls Tryz.prog 178 #[.pointer (some ⟨b, 0, none⟩)] w (EndsL w b s { p with deep := p.deep - 1 }) := by
  have c11 := h.c11
  have f11 := h.fz 11
  have H := Lib.hid h; clear h
  go_enter Tryz.func178, Tryz.ntmps178
  go_wp2_with fail
  go_end0
  exact ⟨rfl, H.out.set11 _, only_setCell (only_refl _ _) (.inl rfl) _⟩
theorem drop_extract (s : ByteArray) (d : Nat) : (s.extract d s.size).data.toList = s.data.toList.drop d := by
 exact Lib.extract_to_end s d
theorem ErrV.drew {w : World} (h : ErrV w) : ErrV w.drew := h
theorem five_keep (W : World) (b H : Nat) (hne : b ≠ H) (o : Nat) (i j k l m : Nat) (a1 a2 a3 a4 a5 : Value) :
  (((((W.setCell ⟨H, i, none⟩ a1).setCell ⟨H, j, none⟩ a2).setCell ⟨H, k, none⟩ a3).setCell ⟨H, l, none⟩ a4).setCell ⟨H, m, none⟩ a5).cell? ⟨b, o, none⟩ = W.cell? ⟨b, o, none⟩ := by
  have q : ∀ x, (⟨H, x, none⟩ : Addr) ≠ ⟨b, o, none⟩ := fun x e => hne (by injection e with e1; exact e1.symm)
  rw [World.cell?_setCell_other _ _ _ _ (q _), World.cell?_setCell_other _ _ _ _ (q _), World.cell?_setCell_other _ _ _ _ (q _), World.cell?_setCell_other _ _ _ _ (q _), World.cell?_setCell_other _ _ _ _ (q _)]
def NextR (w : World) (b : Nat) (s : ByteArray) (p : PS) (d : Nat) (e : Ending) (w' : World) : Prop :=
 ∃ (d1 : Nat) (wd : ByteArray) (n : Int) (g : Sg), d <= d1 /\ d1 <= s.size /\ s.data.toList.drop d1 = skipB false (s.data.toList.drop d) /\ g = lexS (s.data.toList.drop d1) /\ d1 + g.size <= s.size /\
   e = .returned (.agg #[.int .i64 g.kind, .int .i64 d1, .string wd, .int .i64 n, .bool g.large]) /\ wd.data.toList = g.word /\ (g.large = false -> n = g.n) /\ Left w b s { p with done := (d1 : Int) + (g.size : Int) } w'
theorem lex_size (u : Bs) : (lexS u).size <= u.length := by
 cases u with
 | nil => simp [lexS]
 | cons c r =>
   simp only [lexS]
   split
   ·exact tw_len _ _
   ·split
    ·exact tw_len _ _
    ·split
     ·unfold quotS
      split
      ·next heq => rw [heq]; split <;> simp [Sg.none]
      ·simp [Sg.none]
     ·split
      ·unfold codeS
       split
       ·next _ x h heq =>
        rw [heq]
        split
        ·have := tw_len hexB (h.take 6)
         rw [List.length_take] at this
         simp only [List.length_cons]; omega
        ·simp [Sg.none]
       ·simp [Sg.none]
      ·split <;> simp [Sg.none]
theorem next_any (w : World) (b : Nat) (s : ByteArray) (p : PS) (d : Nat) (h : Cel w b s p) (hd : p.done = d) (hs : d <= s.size) (hm : s.size <= 4000) (hE : ErrV w) (hbE : 3 ≠ b) :
  Calls Tryz.prog 73 #[.pointer (some ⟨b, 0, none⟩)] w (NextR w b s p d) := by
  have hp := pass_any (w.alloc (.cells #[.int .i64 0, .int .i64 0, .string ⟨#[]⟩, .int .i64 0, .bool false] 91)) b s p d (h.alloc _) hd hs (by omega)
  have hlt := h.lt
  have HP := Lib.hid hp; have HD := Lib.hid hd
  clear hp hd
  go_enter Tryz.func73, Tryz.ntmps73
  go_wp2_with fail
  refine HP.out.mono ?_
  rintro e w1 ⟨rfl, d1, hd1, hd2, hsk, hC, hg⟩
  have c0 := hC.c0
  have c1 := hC.c1
  simp only at c1
  obtain ⟨x, hx⟩ : ∃ x, s.extract d1 s.size = x := ⟨_, rfl⟩
  have hxl : x.data.toList = s.data.toList.drop d1 := by rw [<- hx]; exact drop_extract s d1
  have hxs : x.size <= s.size := by rw [small_of, hxl, List.length_drop]; show s.data.toList.length - d1 <= _; have : s.data.toList.length = s.size := rfl; omega
  have hE1 : ErrV w1 := (hE.alloc _).grown hg hbE
  have hf := fun W hE' => first_any x W (by omega) hE'
  rw [hxl] at hf
  have hgs := lex_size (s.data.toList.drop d1)
  rw [List.length_drop, show s.data.toList.length = s.size from rfl] at hgs
  obtain ⟨g, hgg⟩ : ∃ g, lexS (s.data.toList.drop d1) = g := ⟨_, rfl⟩
  rw [hgg] at hf hgs
  have i0 : (0 : Int) <= (d1 : Int) := Int.natCast_nonneg _
  have i1 : (d1 : Int) <= (s.size : Int) := by omega
  have i2 : (s.size : Int) <= 4000 := by omega
  have hz1 : w.heap.size + 1 <= w1.heap.size := by have := hg.size; simpa using this
  have HX := Lib.hid hx; have HSK := Lib.hid hsk; have HC := Lib.hid hC; have HG := Lib.hid hg; have HGG := Lib.hid hgg; have HF := Lib.hid hf
  clear hx hsk hC hg hgg hf hxl
  go_wp2_with fail
  have HD12 := Lib.hid (And.intro hd1 hd2)
  clear hs hm hE hbE hd1 hd2 hxs h
  have ks : ∀ (W : World) (o : Obj), b < W.heap.size -> (W.cell? ⟨b, 0, none⟩ = some (.string s) /\ W.cell? ⟨b, 1, none⟩ = some (.int .i64 (d1 : Int))) -> ((W.alloc o).cell? ⟨b, 0, none⟩ = some (.string s) /\ (W.alloc o).cell? ⟨b, 1, none⟩ = some (.int .i64 (d1 : Int))) := fun W o hb h => ⟨by rw [World.cell?_alloc_past o _ _ hb]; exact h.1, by rw [World.cell?_alloc_past o _ _ hb]; exact h.2⟩
  have KS := Lib.hid ks; clear ks
  have hb1 : b < w1.drew.heap.size := by show b < w1.heap.size; omega
  have hE1d : ErrV w1.drew := hE1
  have HE1 := Lib.hid hE1; have HE1d := Lib.hid hE1d; clear hE1 hE1d
  have hbne : b ≠ w1.heap.size := by omega
  have hz2 : ∀ o, b < (w1.alloc o).drew.heap.size := fun o => by show b < (w1.alloc o).heap.size; simp; omega
  have HZ2 := Lib.hid hz2; clear hz2
  have cd : w1.drew.cell? ⟨b, 0, none⟩ = some (.string s) /\ w1.drew.cell? ⟨b, 1, none⟩ = some (.int .i64 (d1 : Int)) := ⟨c0, c1⟩
  have ca : ∀ o, (w1.alloc o).cell? ⟨b, 0, none⟩ = some (.string s) /\ (w1.alloc o).cell? ⟨b, 1, none⟩ = some (.int .i64 (d1 : Int)) := fun o => KS.out _ _ hb1 ⟨c0, c1⟩
  have cad : ∀ o, (w1.alloc o).drew.cell? ⟨b, 0, none⟩ = some (.string s) /\ (w1.alloc o).drew.cell? ⟨b, 1, none⟩ = some (.int .i64 (d1 : Int)) := fun o => KS.out _ _ hb1 ⟨c0, c1⟩
  have cda : ∀ o, (w1.drew.alloc o).cell? ⟨b, 0, none⟩ = some (.string s) /\ (w1.drew.alloc o).cell? ⟨b, 1, none⟩ = some (.int .i64 (d1 : Int)) := fun o => KS.out _ _ hb1 ⟨c0, c1⟩
  have CD := Lib.hid cd; have CA := Lib.hid ca; have CAD := Lib.hid cad; have CDA := Lib.hid cda; clear cd ca cad cda
  go_region_held3 (fun w' => w'.cell? ⟨b, 0, none⟩ = some (.string s) /\ w'.cell? ⟨b, 1, none⟩ = some (.int .i64 (d1 : Int)))
   (with_reducible (first | exact ⟨c0, c1⟩ | exact CD.out | exact CA.out _ | exact CAD.out _ | exact CDA.out _ | exact ⟨y0, y1⟩ | exact YA.out _ | exact ⟨z0, z1⟩ | exact ⟨(five_keep _ _ _ hbne _ _ _ _ _ _ _ _ _ _ _).trans z0, (five_keep _ _ _ hbne _ _ _ _ _ _ _ _ _ _ _).trans z1⟩))
   (first
    | (go_at_call 98; rw [HX.out]; (with_reducible refine (HF.out w1.drew HE1d.out).mono ?_)
       rintro e w2 ⟨wd, n, rfl, e1, e2, hb2⟩
       have y0 : w2.cell? ⟨b, 0, none⟩ = some (.string s) := (hb2.cell (p := ⟨b, 0, none⟩) hb1).trans c0
       have y1 : w2.cell? ⟨b, 1, none⟩ = some (.int .i64 (d1 : Int)) := (hb2.cell (p := ⟨b, 1, none⟩) hb1).trans c1
       have hbw : b < w2.heap.size := Nat.lt_of_lt_of_le hb1 hb2.size
       have YA : Hid (∀ o, (w2.alloc o).cell? ⟨b, 0, none⟩ = some (.string s) /\ (w2.alloc o).cell? ⟨b, 1, none⟩ = some (.int .i64 (d1 : Int))) := Lib.hid fun o => KS.out _ _ hbw ⟨y0, y1⟩
       have HB2 := Lib.hid hb2; have E1 := Lib.hid e1; have E2 := Lib.hid e2
       clear hb2 e1 e2)
    | (go_at_call 98; rw [HX.out]; (with_reducible refine (HF.out (w1.alloc _).drew (ErrV.drew (ErrV.alloc HE1.out _))).mono ?_)
       rintro e w2 ⟨wd, n, rfl, e1, e2, hb2⟩
       have z0 : w2.cell? ⟨b, 0, none⟩ = some (.string s) := (hb2.cell (p := ⟨b, 0, none⟩) (HZ2.out _)).trans (CAD.out _).1
       have z1 : w2.cell? ⟨b, 1, none⟩ = some (.int .i64 (d1 : Int)) := (hb2.cell (p := ⟨b, 1, none⟩) (HZ2.out _)).trans (CAD.out _).2
       have hk2 : Blk w2 w1.heap.size 91 #[.int .i64 0, .int .i64 0, .string ⟨#[]⟩, .int .i64 0, .bool false] := Blk.below (Blk.drew (Blk.new w1 _ _)) hb2 (by show w1.heap.size < (w1.alloc _).heap.size; simp)
       have v0 : w2.cell? ⟨w1.heap.size, 0, none⟩ = some (.int .i64 0) := Blk.cell hk2 0
       have v1 : w2.cell? ⟨w1.heap.size, 1, none⟩ = some (.int .i64 0) := Blk.cell hk2 1
       have v2 : w2.cell? ⟨w1.heap.size, 2, none⟩ = some (.string ⟨#[]⟩) := Blk.cell hk2 2
       have v3 : w2.cell? ⟨w1.heap.size, 3, none⟩ = some (.int .i64 0) := Blk.cell hk2 3
       have v4 : w2.cell? ⟨w1.heap.size, 4, none⟩ = some (.bool false) := Blk.cell hk2 4
       have g0 := Blk.frozen hk2 0; have g1 := Blk.frozen hk2 1; have g2 := Blk.frozen hk2 2; have g3 := Blk.frozen hk2 3; have g4 := Blk.frozen hk2 4
       have HB2 := Lib.hid hb2; have E1 := Lib.hid e1; have E2 := Lib.hid e2
       clear hb2 e1 e2 hk2))
  ·have hB : Blk (w2.alloc (.cells #[.int .i64 g.kind, .int .i64 0, .string wd, .int .i64 n, .bool g.large] 91)) w2.heap.size 91 #[.int .i64 g.kind, .int .i64 0, .string wd, .int .i64 n, .bool g.large] := Blk.new _ _ _
   have hCW : Cel (w2.alloc (.cells #[.int .i64 g.kind, .int .i64 0, .string wd, .int .i64 n, .bool g.large] 91)) b s { p with done := d1 } := Cel.alloc (Cel.below (show Cel w1.drew b s _ from HC.out) HB2.out) _
   have hR : Blk (w2.alloc (.cells #[.int .i64 g.kind, .int .i64 0, .string wd, .int .i64 n, .bool g.large] 91)) w.heap.size 91 #[.int .i64 0, .int .i64 0, .string ⟨#[]⟩, .int .i64 0, .bool false] := Blk.alloc (Blk.below (Blk.drew (show Blk w1 w.heap.size 91 #[.int .i64 0, .int .i64 0, .string ⟨#[]⟩, .int .i64 0, .bool false] from Blk.grown (Blk.new w _ _) HG.out (fun e => by injection e with e; omega))) HB2.out (by show w.heap.size < w1.heap.size; omega)) _
   have hGW : w.grownBy (w2.alloc (.cells #[.int .i64 g.kind, .int .i64 0, .string wd, .int .i64 n, .bool g.large] 91)) (some b) := only_alloc (only_below (only_drew (only_trans (only_alloc (only_refl _ _) _) HG.out)) HB2.out) _
   have hn1 : w2.heap.size ≠ b := by omega
   have hn2 : w2.heap.size ≠ w.heap.size := by have := HB2.out.size; have e : w1.drew.heap.size = w1.heap.size := rfl; omega
   have hH : w.heap.size <= w2.heap.size := by have := HB2.out.size; have e : w1.drew.heap.size = w1.heap.size := rfl; omega
   clear YA hbw y0 y1 HB2
   generalize w2.alloc (.cells #[.int .i64 g.kind, .int .i64 0, .string wd, .int .i64 n, .bool g.large] 91) = W at *
   generalize w2.heap.size = H at *
   have q0 := Blk.cell hB 0; have q1 := Blk.cell hB 1; have q2 := Blk.cell hB 2; have q3 := Blk.cell hB 3; have q4 := Blk.cell hB 4
   simp only [List.getElem?_toArray, List.getElem?_cons_zero, List.getElem?_cons_succ] at q0 q1 q2 q3 q4
   have r0 := Blk.cell hR 0; have r1 := Blk.cell hR 1; have r2 := Blk.cell hR 2; have r3 := Blk.cell hR 3; have r4 := Blk.cell hR 4
   simp only [List.getElem?_toArray, List.getElem?_cons_zero, List.getElem?_cons_succ] at r0 r1 r2 r3 r4
   have fq := fun i => Blk.frozen hB i; have fr := fun i => Blk.frozen hR i; have fb := fun i => Cel.fz hCW i
   have p1 := hCW.c1
   simp only at p1
   have hn3 : b ≠ H := fun e => hn1 e.symm
   have hn4 : w.heap.size ≠ H := fun e => hn2 e.symm
   have hn5 : b ≠ w.heap.size := by omega
   have hn6 : w.heap.size ≠ b := by omega
   have hsum : IntKind.i64.wrap ((d1 : Int) + (g.size : Int)) = (d1 : Int) + (g.size : Int) := by rw [IntKind.wrap_i64]; omega
   have s0 : (0 : Int) <= (g.size : Int) := Int.natCast_nonneg _
   have s1 : (d1 : Int) + (g.size : Int) <= 4000 := by omega
   have HBk := Lib.hid hB; have HRk := Lib.hid hR; have HCk := Lib.hid hCW; have HGk := Lib.hid hGW
   clear hB hR hCW hGW
   go_wp2_with fail
   refine bodyPost_ret (v := .agg #[.int .i64 g.kind, .int .i64 d1, .string wd, .int .i64 n, .bool g.large]) (by simp [results, Tryz.results73, go_sem, r0, r1, r2, r3, r4]) rfl ?_
   refine ⟨d1, wd, n, g, HD12.out.1, HD12.out.2, HSK.out, HGG.out.symm, by omega, rfl, E1.out, E2.out, ?_, ?_⟩
   ·exact Cel.far (Cel.far (Cel.far (Cel.far (Cel.far (Cel.set1 (Cel.far HCk.out hn3 _) _) hn5 _) hn5 _) hn5 _) hn5 _) hn5 _
   ·exact only_new (only_new (only_new (only_new (only_new (only_setCell (only_new HGk.out hH _) (.inl rfl) _) (Nat.le_refl _) _) (Nat.le_refl _) _) (Nat.le_refl _) _) (Nat.le_refl _) _) (Nat.le_refl _) _
  ·have hB : Blk (((((w2.setCell ⟨w1.heap.size, 0, none⟩ (.int .i64 g.kind)).setCell ⟨w1.heap.size, 1, none⟩ (.int .i64 0)).setCell ⟨w1.heap.size, 2, none⟩ (.string wd)).setCell ⟨w1.heap.size, 3, none⟩ (.int .i64 n)).setCell ⟨w1.heap.size, 4, none⟩ (.bool g.large)) w1.heap.size 91 #[.int .i64 g.kind, .int .i64 0, .string wd, .int .i64 n, .bool g.large] := by
    have hk2 : Blk w2 w1.heap.size 91 #[.int .i64 0, .int .i64 0, .string ⟨#[]⟩, .int .i64 0, .bool false] := Blk.below (Blk.drew (Blk.new w1 _ _)) HB2.out (by show w1.heap.size < (w1.alloc _).heap.size; simp)
    exact Blk.set_ (Blk.set_ (Blk.set_ (Blk.set_ (Blk.set_ hk2 0 _) 1 _) 2 _) 3 _) 4 _
   have hCW : Cel (((((w2.setCell ⟨w1.heap.size, 0, none⟩ (.int .i64 g.kind)).setCell ⟨w1.heap.size, 1, none⟩ (.int .i64 0)).setCell ⟨w1.heap.size, 2, none⟩ (.string wd)).setCell ⟨w1.heap.size, 3, none⟩ (.int .i64 n)).setCell ⟨w1.heap.size, 4, none⟩ (.bool g.large)) b s { p with done := d1 } := by
    have h2 : Cel w2 b s { p with done := d1 } := Cel.below (show Cel (w1.alloc _).drew b s _ from HC.out.alloc _) HB2.out
    exact Cel.far (Cel.far (Cel.far (Cel.far (Cel.far h2 hbne _) hbne _) hbne _) hbne _) hbne _
   have hR : Blk (((((w2.setCell ⟨w1.heap.size, 0, none⟩ (.int .i64 g.kind)).setCell ⟨w1.heap.size, 1, none⟩ (.int .i64 0)).setCell ⟨w1.heap.size, 2, none⟩ (.string wd)).setCell ⟨w1.heap.size, 3, none⟩ (.int .i64 n)).setCell ⟨w1.heap.size, 4, none⟩ (.bool g.large)) w.heap.size 91 #[.int .i64 0, .int .i64 0, .string ⟨#[]⟩, .int .i64 0, .bool false] := by
    have h1 : Blk w1 w.heap.size 91 #[.int .i64 0, .int .i64 0, .string ⟨#[]⟩, .int .i64 0, .bool false] := Blk.grown (Blk.new w _ _) HG.out (fun e => by injection e with e; omega)
    have h2 : Blk w2 w.heap.size 91 #[.int .i64 0, .int .i64 0, .string ⟨#[]⟩, .int .i64 0, .bool false] := Blk.below (show Blk (w1.alloc _).drew _ _ _ from Blk.alloc h1 _) HB2.out (by show w.heap.size < (w1.alloc _).heap.size; simp; omega)
    have hq : w.heap.size ≠ w1.heap.size := by omega
    exact Blk.far (Blk.far (Blk.far (Blk.far (Blk.far h2 hq _) hq _) hq _) hq _) hq _
   have hGW : w.grownBy (((((w2.setCell ⟨w1.heap.size, 0, none⟩ (.int .i64 g.kind)).setCell ⟨w1.heap.size, 1, none⟩ (.int .i64 0)).setCell ⟨w1.heap.size, 2, none⟩ (.string wd)).setCell ⟨w1.heap.size, 3, none⟩ (.int .i64 n)).setCell ⟨w1.heap.size, 4, none⟩ (.bool g.large)) (some b) := by
    have h2 : w.grownBy w2 (some b) := only_below (only_drew (only_alloc (only_trans (only_alloc (only_refl _ _) _) HG.out) _)) HB2.out
    have hq : w.heap.size <= w1.heap.size := by omega
    exact only_new (only_new (only_new (only_new (only_new h2 hq _) hq _) hq _) hq _) hq _
   have hn1 : w1.heap.size ≠ b := by omega
   have hn2 : w1.heap.size ≠ w.heap.size := by omega
   have hH : w.heap.size <= w1.heap.size := by omega
   clear z0 z1 v0 v1 v2 v3 v4 g0 g1 g2 g3 g4 HB2 c0 c1 hbne hb1 CA CAD CDA CD HZ2 hz1 HG HC HE1 HE1d
   generalize (((((w2.setCell ⟨w1.heap.size, 0, none⟩ (.int .i64 g.kind)).setCell ⟨w1.heap.size, 1, none⟩ (.int .i64 0)).setCell ⟨w1.heap.size, 2, none⟩ (.string wd)).setCell ⟨w1.heap.size, 3, none⟩ (.int .i64 n)).setCell ⟨w1.heap.size, 4, none⟩ (.bool g.large)) = W at *
   generalize w1.heap.size = H at *
   have q0 := Blk.cell hB 0; have q1 := Blk.cell hB 1; have q2 := Blk.cell hB 2; have q3 := Blk.cell hB 3; have q4 := Blk.cell hB 4
   simp only [List.getElem?_toArray, List.getElem?_cons_zero, List.getElem?_cons_succ] at q0 q1 q2 q3 q4
   have r0 := Blk.cell hR 0; have r1 := Blk.cell hR 1; have r2 := Blk.cell hR 2; have r3 := Blk.cell hR 3; have r4 := Blk.cell hR 4
   simp only [List.getElem?_toArray, List.getElem?_cons_zero, List.getElem?_cons_succ] at r0 r1 r2 r3 r4
   have fq := fun i => Blk.frozen hB i; have fr := fun i => Blk.frozen hR i; have fb := fun i => Cel.fz hCW i
   have p1 := hCW.c1
   simp only at p1
   have hn3 : b ≠ H := fun e => hn1 e.symm
   have hn4 : w.heap.size ≠ H := fun e => hn2 e.symm
   have hn5 : b ≠ w.heap.size := by omega
   have hn6 : w.heap.size ≠ b := by omega
   have hsum : IntKind.i64.wrap ((d1 : Int) + (g.size : Int)) = (d1 : Int) + (g.size : Int) := by rw [IntKind.wrap_i64]; omega
   have s0 : (0 : Int) <= (g.size : Int) := Int.natCast_nonneg _
   have s1 : (d1 : Int) + (g.size : Int) <= 4000 := by omega
   have HBk := Lib.hid hB; have HRk := Lib.hid hR; have HCk := Lib.hid hCW; have HGk := Lib.hid hGW
   clear hB hR hCW hGW
   go_wp2_with fail
   refine bodyPost_ret (v := .agg #[.int .i64 g.kind, .int .i64 d1, .string wd, .int .i64 n, .bool g.large]) (by simp [results, Tryz.results73, go_sem, r0, r1, r2, r3, r4]) rfl ?_
   refine ⟨d1, wd, n, g, HD12.out.1, HD12.out.2, HSK.out, HGG.out.symm, by omega, rfl, E1.out, E2.out, ?_, ?_⟩
   ·exact Cel.far (Cel.far (Cel.far (Cel.far (Cel.far (Cel.set1 (Cel.far HCk.out hn3 _) _) hn5 _) hn5 _) hn5 _) hn5 _) hn5 _
   ·exact only_new (only_new (only_new (only_new (only_new (only_setCell (only_new HGk.out hH _) (.inl rfl) _) (Nat.le_refl _) _) (Nat.le_refl _) _) (Nat.le_refl _) _) (Nat.le_refl _) _) (Nat.le_refl _) _
end Go.Proofs.YtalgnnidhnhciaaGreatDoor
