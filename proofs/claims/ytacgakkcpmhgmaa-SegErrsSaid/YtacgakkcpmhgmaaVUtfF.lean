/- Contract of utf.Encode: numbers, written as UTF-8; of what is no scalar FFFD. Contracts of the document's own one and Encode. The chapter's own example, as the law texts ask it: known() returns true. Plain mathematics: what was encoded is decoded as it was; a scalar that is told has the bytes that encode it; fronts of a scalar. Encode (the project's and the document's own) at any slice that reads as numbers; slices that came in, read; what the law texts gather of numbers. Contract of the law texts' Bytes: some string, of at most 1300 bytes. -/
import Derived.Test.YtacgakkcpmhgmaaProg
import Derived.Test.YtacgakkcpmhgmaaVUtfP
import Derived.Lib.OthersKept
import Derived.Lib.FrozenHead2
import Derived.BigCall
import Derived.Test.YtacgakkcpmhgmaaVUtfD
import Derived.Laws.BytesArg
import Derived.Test.YtacgakkcpmhgmaaVApart
import Derived.Test.YtacgakkcpmhgmaaVMiniMa
set_option linter.unusedVariables false
set_option linter.unusedSimpArgs false
set_option maxRecDepth 100000
set_option maxHeartbeats 1000000
namespace Go.Proofs.Ytacgakkcpmhgmaa
open Go.RowKit Go.Proofs
def enc (l : List Int) : List UInt8 := l.flatMap Lib.encodeRune
theorem enc_snoc (l : List Int) (n : Int) : enc (l ++ [n]) = enc l ++ Lib.encodeRune n := by simp [enc]
theorem enc_len (l : List Int) : (enc l).length <= 4 * l.length := by
 induction l with
 | nil => simp [enc]
 | cons x l ih =>
   have h := Lib.runeCells_le x
   rw [Lib.runeCells_length] at h
   simp only [enc, List.flatMap_cons, List.length_append, List.length_cons] at *
   omega
theorem take_snoc (l : List Int) (k : Nat) (h : k < l.length) : l.take (k + 1) = l.take k ++ [l.getD k 0] := by
 rw [List.take_succ_eq_append_getElem h]; simp [h]
theorem enc_take (l : List Int) (k : Nat) (h : k < l.length) : enc (l.take (k + 1)) = enc (l.take k) ++ Lib.encodeRune (l.getD k 0) := by
 rw [take_snoc l k h, enc_snoc]
theorem enc_bad (n : Int) (h : scB n = false) : Lib.encodeRune n = Lib.encodeRune 65533 := by
 have hb : Lib.encodeRuneZ n = [239, 191, 189] := Lib.encodeRuneZ_bad (by have := scB_cases n; rw [h] at this; simp at this; omega)
 unfold Lib.encodeRune
 rw [hb]; rfl
end Go.Proofs.Ytacgakkcpmhgmaa
namespace Go.Proofs.Ytacgakkcpmhgmaa
open Go.RowKit Go.Proofs
theorem enc_str (r : Int) (xs : List Int) (h : Lib.encodeRuneZ r = xs) : strOfNums xs = ⟨(Lib.encodeRune r).toArray⟩ := by subst h; rfl
theorem one_w1 (r : Int) (w : World) (h0 : 0 <= r) (h1 : r <= 127) :
  Calls Try.prog 57 #[.int .i64 r] w fun e w' => e = .returned (.string ⟨(Lib.encodeRune r).toArray⟩) /\ Below w.heap.size w w' := by
  have hsc : scB r = true := by rw [scB_iff]; unfold isScalar; omega
  have hz : Lib.encodeRuneZ r = [r] := Lib.encodeRuneZ_one h0 h1
  have HSC := Lib.hid hsc; have HZ := Lib.hid hz; clear hsc hz
  go_enter Try.func57, Try.ntmps57
  go_wp2_with fail
  refine (refscalar_any r _).mono ?_; rintro e w' ⟨rfl, rfl⟩
  rw [HSC.out]
  go_wp2_with fail
  rw [run_convert_bytes_arg _ 23 5 Try.underlying23 Try.underlying5 w.heap.size 0 1 1 [r] rfl (by intro i hi; rcases (show i = 0 by omega) with rfl <;> simp [go_sem]) 9 Try.underlying9]
  simp only [Result.andThen]
  rw [Oper.upon_value]
  go_wp2_with fail
  go_ret
  exact ⟨by rw [<- enc_str r _ HZ.out]; rfl, (Below.refl _ _).alloc (Nat.le_refl _) _⟩
theorem one_w2 (r : Int) (w : World) (h0 : 128 <= r) (h1 : r <= 2047) :
  Calls Try.prog 57 #[.int .i64 r] w fun e w' => e = .returned (.string ⟨(Lib.encodeRune r).toArray⟩) /\ Below w.heap.size w w' := by
  have hsc : scB r = true := by rw [scB_iff]; unfold isScalar; omega
  have hz : Lib.encodeRuneZ r = [192 + r / 64, 128 + r % 64] := Lib.encodeRuneZ_two h0 h1
  have o0 := i64_or192 (r / 64) (by omega) (by omega)
  have a1 := i64_and63 (r) (by omega) (by omega)
  have o1 := i64_or128 (r % 64) (by omega) (by omega)
  have z0 : 0 <= 192 + r / 64 /\ 192 + r / 64 <= 255 := by omega
  have z1 : 0 <= 128 + r % 64 /\ 128 + r % 64 <= 255 := by omega
  have q0 : 0 <= r / 64 := by omega
  have HSC := Lib.hid hsc; have HZ := Lib.hid hz; clear hsc hz
  go_enter Try.func57, Try.ntmps57
  go_wp2_with fail
  refine (refscalar_any r _).mono ?_; rintro e w' ⟨rfl, rfl⟩
  rw [HSC.out]
  go_wp2_with fail
  rw [run_convert_bytes_arg _ 23 5 Try.underlying23 Try.underlying5 w.heap.size 0 2 2 [192 + r / 64, 128 + r % 64] rfl (by intro i hi; rcases (show i = 0 \/ i = 1 by omega) with rfl | rfl <;> simp [go_sem]) 9 Try.underlying9]
  simp only [Result.andThen]
  rw [Oper.upon_value]
  go_wp2_with fail
  go_ret
  exact ⟨by rw [<- enc_str r _ HZ.out]; rfl, (Below.refl _ _).alloc (Nat.le_refl _) _⟩
theorem one_w3 (r : Int) (w : World) (h0 : 2048 <= r) (h1 : r <= 65535) (hx : r < 55296 \/ 57343 < r) :
  Calls Try.prog 57 #[.int .i64 r] w fun e w' => e = .returned (.string ⟨(Lib.encodeRune r).toArray⟩) /\ Below w.heap.size w w' := by
  have hsc : scB r = true := by rw [scB_iff]; unfold isScalar; omega
  have hz : Lib.encodeRuneZ r = [224 + r / 4096, 128 + r / 64 % 64, 128 + r % 64] := Lib.encodeRuneZ_three (by omega)
  have o0 := i64_or224 (r / 4096) (by omega) (by omega)
  have a1 := i64_and63 (r / 64) (by omega) (by omega)
  have o1 := i64_or128 (r / 64 % 64) (by omega) (by omega)
  have a2 := i64_and63 (r) (by omega) (by omega)
  have o2 := i64_or128 (r % 64) (by omega) (by omega)
  have z0 : 0 <= 224 + r / 4096 /\ 224 + r / 4096 <= 255 := by omega
  have z1 : 0 <= 128 + r / 64 % 64 /\ 128 + r / 64 % 64 <= 255 := by omega
  have z2 : 0 <= 128 + r % 64 /\ 128 + r % 64 <= 255 := by omega
  have q0 : 0 <= r / 4096 := by omega
  have q1 : 0 <= r / 64 := by omega
  have HSC := Lib.hid hsc; have HZ := Lib.hid hz; clear hsc hz hx
  go_enter Try.func57, Try.ntmps57
  go_wp2_with fail
  refine (refscalar_any r _).mono ?_; rintro e w' ⟨rfl, rfl⟩
  rw [HSC.out]
  go_wp2_with fail
  rw [run_convert_bytes_arg _ 23 5 Try.underlying23 Try.underlying5 w.heap.size 0 3 3 [224 + r / 4096, 128 + r / 64 % 64, 128 + r % 64] rfl (by intro i hi; rcases (show i = 0 \/ i = 1 \/ i = 2 by omega) with rfl | rfl | rfl <;> simp [go_sem]) 9 Try.underlying9]
  simp only [Result.andThen]
  rw [Oper.upon_value]
  go_wp2_with fail
  go_ret
  exact ⟨by rw [<- enc_str r _ HZ.out]; rfl, (Below.refl _ _).alloc (Nat.le_refl _) _⟩
theorem one_w4 (r : Int) (w : World) (h0 : 65536 <= r) (h1 : r <= 1114111) :
  Calls Try.prog 57 #[.int .i64 r] w fun e w' => e = .returned (.string ⟨(Lib.encodeRune r).toArray⟩) /\ Below w.heap.size w w' := by
  have hsc : scB r = true := by rw [scB_iff]; unfold isScalar; omega
  have hz : Lib.encodeRuneZ r = [240 + r / 262144, 128 + r / 4096 % 64, 128 + r / 64 % 64, 128 + r % 64] := Lib.encodeRuneZ_four h0 h1
  have o0 := i64_or240 (r / 262144) (by omega) (by omega)
  have a1 := i64_and63 (r / 4096) (by omega) (by omega)
  have o1 := i64_or128 (r / 4096 % 64) (by omega) (by omega)
  have a2 := i64_and63 (r / 64) (by omega) (by omega)
  have o2 := i64_or128 (r / 64 % 64) (by omega) (by omega)
  have a3 := i64_and63 (r) (by omega) (by omega)
  have o3 := i64_or128 (r % 64) (by omega) (by omega)
  have z0 : 0 <= 240 + r / 262144 /\ 240 + r / 262144 <= 255 := by omega
  have z1 : 0 <= 128 + r / 4096 % 64 /\ 128 + r / 4096 % 64 <= 255 := by omega
  have z2 : 0 <= 128 + r / 64 % 64 /\ 128 + r / 64 % 64 <= 255 := by omega
  have z3 : 0 <= 128 + r % 64 /\ 128 + r % 64 <= 255 := by omega
  have q0 : 0 <= r / 262144 := by omega
  have q1 : 0 <= r / 4096 := by omega
  have q2 : 0 <= r / 64 := by omega
  have HSC := Lib.hid hsc; have HZ := Lib.hid hz; clear hsc hz
  go_enter Try.func57, Try.ntmps57
  go_wp2_with fail
  refine (refscalar_any r _).mono ?_; rintro e w' ⟨rfl, rfl⟩
  rw [HSC.out]
  go_wp2_with fail
  rw [run_convert_bytes_arg _ 23 5 Try.underlying23 Try.underlying5 w.heap.size 0 4 4 [240 + r / 262144, 128 + r / 4096 % 64, 128 + r / 64 % 64, 128 + r % 64] rfl (by intro i hi; rcases (show i = 0 \/ i = 1 \/ i = 2 \/ i = 3 by omega) with rfl | rfl | rfl | rfl <;> simp [go_sem]) 9 Try.underlying9]
  simp only [Result.andThen]
  rw [Oper.upon_value]
  go_wp2_with fail
  go_ret
  exact ⟨by rw [<- enc_str r _ HZ.out]; rfl, (Below.refl _ _).alloc (Nat.le_refl _) _⟩
theorem one_bad (r : Int) (w : World) (h : scB r = false) :
  Calls Try.prog 57 #[.int .i64 r] w fun e w' => e = .returned (.string ⟨(Lib.encodeRune r).toArray⟩) /\ Below w.heap.size w w' := by
  have hb := enc_bad r h
  have HB := Lib.hid hb; have HSC := Lib.hid h; clear hb h
  go_enter Try.func57, Try.ntmps57
  go_wp2_with fail
  refine (refscalar_any r _).mono ?_; rintro e w' ⟨rfl, rfl⟩
  rw [HSC.out]
  go_wp2_with fail
  refine (one_w3 65533 _ (by omega) (by omega) (by omega)).mono ?_
  rintro e w1 ⟨rfl, hb1⟩
  go_wp2_with fail
  go_ret
  exact ⟨by rw [HB.out]; rfl, hb1⟩
theorem one_any (r : Int) (w : World) :
  Calls Try.prog 57 #[.int .i64 r] w fun e w' => e = .returned (.string ⟨(Lib.encodeRune r).toArray⟩) /\ Below w.heap.size w w' := by
  rcases scB_cases r with ⟨h1, h⟩ | ⟨h1, h2, h⟩ | ⟨h1, h2, h⟩ | ⟨h1, h2, h⟩ | ⟨h1, h⟩
  ·exact one_bad r w h
  ·by_cases g1 : r <= 127
   ·exact one_w1 r w h1 g1
   ·by_cases g2 : r <= 2047
    ·exact one_w2 r w (by omega) g2
    ·exact one_w3 r w (by omega) (by omega) (by omega)
  ·exact one_bad r w h
  ·by_cases g1 : r <= 65535
   ·exact one_w3 r w (by omega) g1 (by omega)
   ·exact one_w4 r w (by omega) h2
  ·exact one_bad r w h
theorem str_append (a b : List UInt8) : ((⟨a.toArray⟩ : ByteArray) ++ ⟨b.toArray⟩) = ⟨(a ++ b).toArray⟩ := by
 apply ByteArray.ext
 rw [ByteArray.data_append]
 simp
theorem refencode_any (l : List Int) (len cap b off : Nat) (w : World) (hl : l.length = len) (hm : len <= 1000000) (hb : b < w.heap.size)
  (hc : ∀ i, i < len -> w.cell? ⟨b, off + i, none⟩ = some (.int .i64 (l.getD i 0))) :
  Calls Try.prog 39 #[.slice (some ⟨b, off, none⟩) len cap] w fun e w' => e = .returned (.string ⟨(enc l).toArray⟩) /\ Below w.heap.size w w' := by
  have HL := Lib.hid hl; clear hl
  have HC := Lib.hid hc; clear hc
  go_enter Try.func39, Try.ntmps39
  go_wp2_with fail
  go_loopw [3, 4] (fun s i wr => ∃ k : Nat, k <= len /\ i = .int .i64 k /\ s = .string ⟨(enc (l.take k)).toArray⟩ /\ Below w.heap.size w wr) (fun _ i _ => len - (intOf i).toNat)
  case atStart => exact ⟨0, Nat.zero_le _, rfl, rfl, Below.refl _ w⟩
  case round =>
   obtain ⟨k, hk, rfl, rfl, hbw⟩ := hrel
   by_cases hlt : k < len
   ·have hcell : wr.cell? ⟨b, off + k, none⟩ = some (.int .i64 (l.getD k 0)) := by rw [(ubcell hbw).1 _ _ hb]; exact HC.out k hlt
    have hs := enc_take l k (by rw [HL.out]; exact hlt)
    have hlen := enc_len (l.take k)
    rw [List.length_take] at hlen
    have hlen2 : (enc (l.take k)).length <= 4000000 := by omega
    clear hlen
    have k0 : (0 : Int) <= (k : Int) := Int.natCast_nonneg _
    have k1 : (k : Int) < (len : Int) := by omega
    have HS := Lib.hid hs; have HBW := Lib.hid hbw; clear hs hbw
    generalize l.getD k 0 = x at *
    have hr4 : (Lib.encodeRune x).length <= 4 := by have := Lib.runeCells_le x; rw [Lib.runeCells_length] at this; exact this.2
    go_wp2_with fail
    refine (one_any x _).mono ?_; rintro e w2 ⟨rfl, hb2⟩
    have HBW2 := Lib.hid (HBW.out.trans (hb2.mono HBW.out.size)); clear hb2
    go_wp2_with fail
    refine ⟨⟨k + 1, by omega, by go_num, by rw [HS.out, <- str_append]; try rfl, HBW2.out⟩, by simp [intOf]; omega⟩
   ·have HBW := Lib.hid hbw; clear hbw
    have he : l.take k = l := List.take_of_length_le (by rw [HL.out]; omega)
    have HE := Lib.hid he; clear he
    go_wp2_with fail
    go_ret
    exact ⟨by rw [HE.out]; rfl, HBW.out⟩
theorem refencode_nil (w : World) :
  Calls Try.prog 39 #[.slice none 0 0] w fun e w' => e = .returned (.string ⟨(enc []).toArray⟩) /\ Below w.heap.size w w' := by
  go_enter Try.func39, Try.ntmps39
  go_wp2_with fail
  refine wp_loop_rounds 1 ?_; rw [rounds_succ]
  go_wp2_with fail
  go_ret
  exact ⟨rfl, Below.refl _ _⟩
end Go.Proofs.Ytacgakkcpmhgmaa
namespace Go.Proofs.Ytacgakkcpmhgmaa
open Go.RowKit Go.Proofs
theorem Own.slice {w : World} {B n : Nat} {v : Value} {l : List Int} (h : Own w B v n l) (hn : 0 < n) :
  ∃ g cap, v = .slice (some ⟨g, 0, none⟩) n cap /\ B <= g /\ g < w.heap.size /\ n <= cap /\ ∀ i, i < n -> w.cell? ⟨g, i, none⟩ = some (.int .i64 (l.getD i 0)) := by
  rcases h.form with ⟨_, rfl, _⟩ | ⟨g, cap, hv, h1, h2, h3, h4⟩
  ·omega
  ·exact ⟨g, cap, hv, h1, h2, h3, fun i hi => by have := h4 i hi; rwa [Nat.zero_add] at this⟩
end Go.Proofs.Ytacgakkcpmhgmaa
namespace Go.Proofs.Ytacgakkcpmhgmaa
open Go.RowKit Go.Proofs
theorem bt_succ (a : UInt8) (l : List UInt8) (i : Nat) : bt (a :: l) (i + 1) = bt l i := by unfold bt; simp [List.getD]
theorem bt_head (x : Int) (l : List UInt8) (h0 : 0 <= x) (h1 : x < 256) : bt (x.toNat.toUInt8 :: l) 0 = x := by
 unfold bt
 simp [List.getD]
 omega
def fix (x : Int) : Int := if isScalar x then x else 65533
theorem fix_scalar (x : Int) (h : isScalar x) : fix x = x := if_pos h
theorem enc_form (x : Int) (t : List UInt8) : Lib.encodeRune x ++ t = (Lib.encodeRuneZ x).map (fun y => y.toNat.toUInt8) ++ t := rfl
theorem enc_length (x : Int) : (Lib.encodeRune x).length = (Lib.encodeRuneZ x).length := by unfold Lib.encodeRune; simp
theorem nx_enc (x : Int) (t : List UInt8) : nx (Lib.encodeRune x ++ t) = (fix x, (Lib.encodeRune x).length) := by
 have key : ∀ (zs : List Int), Lib.encodeRuneZ x = zs -> (∀ l : List UInt8, l = zs.map (fun y => y.toNat.toUInt8) ++ t -> nx l = (fix x, zs.length)) -> nx (Lib.encodeRune x ++ t) = (fix x, (Lib.encodeRune x).length) := by
  intro zs hz h
  rw [enc_length, hz]
  exact h _ (by rw [enc_form, hz])
 by_cases hs : isScalar x
 ·rw [fix_scalar x hs] at *
  have hs' := hs
  unfold isScalar at hs'
  by_cases g1 : x <= 127
  ·refine key [x] (Lib.encodeRuneZ_one (by omega) g1) fun l hl => ?_
   have b0 : bt l 0 = x := by rw [hl]; exact bt_head _ _ (by omega) (by omega)
   have hn := nx_cases l
   rw [b0] at hn
   rcases hn with ⟨_, e⟩ | ⟨_, e⟩ | ⟨_, _, _, e⟩ | ⟨_, _, _, e⟩ | ⟨_, _, _, _, e⟩ | ⟨_, _, _, _, e⟩ | ⟨_, _, _, _, _, e⟩ | ⟨_, _, _, _, _, e⟩ <;> first | (exfalso; omega) | exact e
  ·by_cases g2 : x <= 2047
   ·refine key [192 + x / 64, 128 + x % 64] (Lib.encodeRuneZ_two (by omega) g2) fun l hl => ?_
    have b0 : bt l 0 = 192 + x / 64 := by rw [hl]; exact bt_head _ _ (by omega) (by omega)
    have b1 : bt l 1 = 128 + x % 64 := by rw [hl]; exact (bt_succ _ _ 0).trans (bt_head _ _ (by omega) (by omega))
    have ll : 1 < l.length := by rw [hl]; simp
    have hn := nx_cases l
    simp only [sec_cases, con_iff, b0, b1] at hn
    rcases hn with ⟨_, e⟩ | ⟨_, e⟩ | ⟨_, _, _, e⟩ | ⟨_, _, _, e⟩ | ⟨_, _, _, _, e⟩ | ⟨_, _, _, _, e⟩ | ⟨_, _, _, _, _, e⟩ | ⟨_, _, _, _, _, e⟩ <;> first | (exfalso; omega) | (rw [e]; simp only [Prod.mk.injEq, List.length_cons, List.length_nil, and_true]; omega)
   ·by_cases g3 : x <= 65535
    ·refine key [224 + x / 4096, 128 + x / 64 % 64, 128 + x % 64] (Lib.encodeRuneZ_three (by omega)) fun l hl => ?_
     have b0 : bt l 0 = 224 + x / 4096 := by rw [hl]; exact bt_head _ _ (by omega) (by omega)
     have b1 : bt l 1 = 128 + x / 64 % 64 := by rw [hl]; exact (bt_succ _ _ 0).trans (bt_head _ _ (by omega) (by omega))
     have b2 : bt l 2 = 128 + x % 64 := by rw [hl]; exact (bt_succ _ _ 1).trans ((bt_succ _ _ 0).trans (bt_head _ _ (by omega) (by omega)))
     have ll : 2 < l.length := by rw [hl]; simp
     have hn := nx_cases l
     simp only [sec_cases, con_iff, b0, b1, b2] at hn
     rcases hn with ⟨_, e⟩ | ⟨_, e⟩ | ⟨_, _, _, e⟩ | ⟨_, _, _, e⟩ | ⟨_, _, _, _, e⟩ | ⟨_, _, _, _, e⟩ | ⟨_, _, _, _, _, e⟩ | ⟨_, _, _, _, _, e⟩ <;> first | (exfalso; omega) | (rw [e]; simp only [Prod.mk.injEq, List.length_cons, List.length_nil, and_true]; omega)
    ·refine key [240 + x / 262144, 128 + x / 4096 % 64, 128 + x / 64 % 64, 128 + x % 64] (Lib.encodeRuneZ_four (by omega) (by omega)) fun l hl => ?_
     have b0 : bt l 0 = 240 + x / 262144 := by rw [hl]; exact bt_head _ _ (by omega) (by omega)
     have b1 : bt l 1 = 128 + x / 4096 % 64 := by rw [hl]; exact (bt_succ _ _ 0).trans (bt_head _ _ (by omega) (by omega))
     have b2 : bt l 2 = 128 + x / 64 % 64 := by rw [hl]; exact (bt_succ _ _ 1).trans ((bt_succ _ _ 0).trans (bt_head _ _ (by omega) (by omega)))
     have b3 : bt l 3 = 128 + x % 64 := by rw [hl]; exact (bt_succ _ _ 2).trans ((bt_succ _ _ 1).trans ((bt_succ _ _ 0).trans (bt_head _ _ (by omega) (by omega))))
     have ll : 3 < l.length := by rw [hl]; simp
     have hn := nx_cases l
     simp only [sec_cases, con_iff, b0, b1, b2, b3] at hn
     rcases hn with ⟨_, e⟩ | ⟨_, e⟩ | ⟨_, _, _, e⟩ | ⟨_, _, _, e⟩ | ⟨_, _, _, _, e⟩ | ⟨_, _, _, _, e⟩ | ⟨_, _, _, _, _, e⟩ | ⟨_, _, _, _, _, e⟩ <;> first | (exfalso; omega) | (rw [e]; simp only [Prod.mk.injEq, List.length_cons, List.length_nil, and_true]; omega)
 ·have hf : fix x = 65533 := if_neg hs
  have hb : Lib.encodeRuneZ x = [239, 191, 189] := Lib.encodeRuneZ_bad (by unfold isScalar at hs; omega)
  refine key [239, 191, 189] hb fun l hl => ?_
  have b0 : bt l 0 = 239 := by rw [hl]; exact bt_head 239 _ (by omega) (by omega)
  have b1 : bt l 1 = 191 := by rw [hl]; exact (bt_succ _ _ 0).trans (bt_head 191 _ (by omega) (by omega))
  have b2 : bt l 2 = 189 := by rw [hl]; exact (bt_succ _ _ 1).trans ((bt_succ _ _ 0).trans (bt_head 189 _ (by omega) (by omega)))
  have ll : 2 < l.length := by rw [hl]; simp
  have hn := nx_cases l
  simp only [sec_cases, con_iff, b0, b1, b2] at hn
  rw [hf]
  rcases hn with ⟨_, e⟩ | ⟨_, e⟩ | ⟨_, _, _, e⟩ | ⟨_, _, _, e⟩ | ⟨_, _, _, _, e⟩ | ⟨_, _, _, _, e⟩ | ⟨_, _, _, _, _, e⟩ | ⟨_, _, _, _, _, e⟩ <;> first | (exfalso; omega) | (rw [e]; simp only [Prod.mk.injEq, List.length_cons, List.length_nil, and_true]; omega)
theorem enc_ne (x : Int) (t : List UInt8) : Lib.encodeRune x ++ t ≠ [] := by
 intro e
 have := congrArg List.length e
 have h := Lib.runeCells_le x
 rw [Lib.runeCells_length] at h
 rw [List.length_append, List.length_nil] at this
 omega
theorem enc_cons (x : Int) (l : List Int) : enc (x :: l) = Lib.encodeRune x ++ enc l := by simp [enc]
theorem scs_enc (l : List Int) (t : List UInt8) : scs (enc l ++ t) = l.map fix ++ scs t := by
 induction l with
 | nil => simp [enc]
 | cons x l ih =>
   rw [enc_cons, List.append_assoc, scs_cons _ (enc_ne x _), nx_enc, List.drop_left, ih]
   simp
theorem scs_enc_all (l : List Int) : scs (enc l) = l.map fix := by
 have := scs_enc l []
 rw [List.append_nil, scs_nil, List.append_nil] at this
 exact this
theorem map_fix (l : List Int) (h : ∀ x ∈ l, isScalar x) : l.map fix = l := by
 induction l with
 | nil => rfl
 | cons x l ih => rw [List.map_cons, fix_scalar x (h x List.mem_cons_self), ih (fun y hy => h y (List.mem_cons_of_mem _ hy))]
end Go.Proofs.Ytacgakkcpmhgmaa
namespace Go.Proofs.Ytacgakkcpmhgmaa
open Go.RowKit Go.Proofs
theorem refencode_zero (a : Option Addr) (cap : Nat) (w : World) :
  Calls Try.prog 39 #[.slice a 0 cap] w fun e w' => e = .returned (.string ⟨(enc []).toArray⟩) /\ Below w.heap.size w w' := by
  go_enter Try.func39, Try.ntmps39
  go_wp2_with fail
  refine wp_loop_rounds 1 ?_; rw [rounds_succ]
  go_wp2_with fail
  go_ret
  exact ⟨rfl, Below.refl _ _⟩
theorem refencode_reads {w : World} {v : Value} {n : Nat} {l : List Int} (h : Reads w v n l) (hn : n <= 1000000) :
  Calls Try.prog 39 #[v] w fun e w' => e = .returned (.string ⟨(enc l).toArray⟩) /\ Below w.heap.size w w' := by
  obtain ⟨h1, a, cap, rfl, _, h3⟩ := h
  by_cases h0 : n = 0
  ·subst h0
   obtain rfl : l = [] := List.eq_nil_of_length_eq_zero h1
   exact refencode_zero a cap w
  ·obtain ⟨b, off, rfl, hc⟩ := h3 0 (by omega)
   exact refencode_any l n cap b off w h1 hn (World.block_lt_of_cell? w _ (hc 0 (by omega))) hc
theorem getD_take (l : List Int) (n j : Nat) (h : j < n) : (l.take n).getD j 0 = l.getD j 0 := by
 simp [List.getD, h]
theorem IsRow.reads {w : World} {a : Option Addr} {len cap : Nat} {zs : List Int} (h : IsRow .i64 w a len cap zs) (n : Nat) (hn : n <= len) : Reads w (.slice a n cap) n (zs.take n) := by
 have hl := h.len_le
 refine ⟨by rw [List.length_take]; omega, a, cap, rfl, fun e => ?_, fun i hi => ?_⟩
 ·rcases h with ⟨_, _, h2, _⟩ | ⟨x, hx, _⟩
  ·exact h2
  ·rw [e] at hx; cases hx
 ·obtain ⟨b, off, ha, _, hc, _⟩ := h.at i (by omega)
  exact ⟨b, off, ha, fun j hj => by rw [getD_take _ _ _ hj]; exact hc j (by omega)⟩
def mapped (f : Int -> Int) (z : List Int) (k : Nat) : List Int := (z.take k).map f
theorem mapped_zero (f : Int -> Int) (z : List Int) : mapped f z 0 = [] := rfl
theorem mapped_succ (f : Int -> Int) (z : List Int) (k : Nat) (h : k < z.length) : mapped f z (k + 1) = mapped f z k ++ [f (z.getD k 0)] := by
 unfold mapped; rw [take_snoc z k h, List.map_append]; rfl
theorem mapped_len (f : Int -> Int) (z : List Int) (k : Nat) (h : k <= z.length) : (mapped f z k).length = k := by
 unfold mapped; rw [List.length_map, List.length_take]; omega
theorem enc_size (l : List Int) (n : Nat) (h : l.length <= n) (hn : n <= 1000) : (⟨(enc l).toArray⟩ : ByteArray).size <= 1000000 := by
 have := enc_len l
 simp [ByteArray.size] at *
 omega
end Go.Proofs.Ytacgakkcpmhgmaa
namespace Go.Proofs.Ytacgakkcpmhgmaa
open Go.RowKit Go.Proofs
theorem IsRow.cap_le {k : IntKind} {w : World} {a : Option Addr} {len cap : Nat} {zs : List Int} (h : IsRow k w a len cap zs) : len <= cap /\ cap <= 9223372036854775807 := by
 rcases h with ⟨_, h2, h3, _⟩ | ⟨x, _, h2, h3, _⟩
 ·omega
 ·unfold maxLen at h3; omega
theorem loadCells_zero (P : Program) (w : World) (a : Addr) : (loadCells a 0).run P w = .ok #[] w :=
 run_loadCells_list (P := P) w a [] (fun j v hj => by simp at hj)
theorem conv_zero (w : World) (a : Option Addr) (c : Nat) : (convert 23 9 (.slice a 0 c)).run Try.prog w = .ok (.string (strOfNums [])) w := by
 cases a with
 | none => exact run_convert_bytes_nil w 23 5 Try.underlying23 Try.underlying5 0 c _ Try.underlying9
 | some x =>
   rw [run_convert_bytes_string w _ _ _ _ 0 c Try.underlying23 Try.underlying5 Try.underlying9, run_bytesToString w x 0 c [] (loadCells_zero _ w x)]
   rfl
theorem conv_row {w W : World} {a : Option Addr} {len cap m : Nat} {zs : List Int} (h : IsRow .u8 w a len cap zs) (hm : m <= len) (hb : Below w.heap.size w W) :
  (convert 23 9 (.slice a m cap)).run Try.prog W = .ok (.string (strOfNums (zs.take m))) W := by
  by_cases h0 : m = 0
  ·subst h0; exact conv_zero W a cap
  ·have hl := h.len_le
   obtain ⟨b, off, rfl, hbs, hc, _⟩ := h.at 0 (by omega)
   refine run_convert_bytes_arg W 23 5 Try.underlying23 Try.underlying5 b off m cap (zs.take m) (by rw [List.length_take]; omega) (fun i hi => ?_) _ Try.underlying9
   rw [hb.cell (p := ⟨b, off + i, none⟩) hbs, getD_take _ _ _ hi]
   exact hc i (by omega)
def Short (w : World) (b i : Nat) : Prop := ∃ S : ByteArray, S.size <= 4 /\ w.cell? ⟨b, i, none⟩ = some (.string S)
theorem tdiv_wf (n d : Int) (hd : 0 < d) (w : (Lit.int .i64 n).wf = true) : (Lit.int .i64 (n.tdiv d)).wf = true := by
 have hb := bounds_i64 w
 refine WalkArith.wf_i64 ?_
 have key : ∀ a : Int, 0 <= a -> 0 <= a.tdiv d /\ a.tdiv d <= a := fun a ha => by
  rw [Int.tdiv_eq_ediv_of_nonneg ha]
  exact ⟨Int.ediv_nonneg ha (by omega), Int.ediv_le_self _ ha⟩
 rcases Int.lt_or_le n 0 with h | h
 ·have h1 := key (-n) (by omega)
  rw [Int.neg_tdiv] at h1
  omega
 ·have h1 := key n h
  omega
theorem bytes_any (a0 : Option Addr) (len0 cap0 : Nat) (z0 : List Int) (a1 : Option Addr) (len1 cap1 : Nat) (z1 : List Int) (w0 w : World) (hw0 : Below w0.heap.size w0 w) (r0 : IsRow .i64 w0 a0 len0 cap0 z0) (r1 : IsRow .u8 w0 a1 len1 cap1 z1) (h200 : len1 <= 250) :
  Calls Try.prog 17 #[.slice a0 len0 cap0, .slice a1 len1 cap1] w fun e w' => ∃ S : ByteArray, e = .returned (.string S) /\ S.size <= 1300 /\ Below w.heap.size w w' := by
  have hle := r0.len_le
  have hcap := r1.cap_le
  have hw0z := hw0.size
  have HW0 := Lib.hid hw0
  have HR0 := Lib.hid r0; have HR1 := Lib.hid r1; clear r0 r1 hw0
  go_enter Try.func17, Try.ntmps17
  go_wp2_with fail
  obtain ⟨W, hW⟩ : ∃ W : World, W = w.alloc (.cells #[.string ⟨#[97]⟩, .string ⟨#[90]⟩, .string ⟨#[32]⟩, .string ⟨#[195, 164]⟩, .string ⟨#[226, 130, 172]⟩, .string ⟨#[228, 184, 128]⟩, .string ⟨#[240, 159, 152, 128]⟩, .string ⟨#[239, 191, 189]⟩, .string ⟨#[128]⟩, .string ⟨#[255]⟩, .string ⟨#[195]⟩, .string ⟨#[192, 128]⟩, .string ⟨#[226, 130]⟩, .string ⟨#[224, 128]⟩, .string ⟨#[237, 160, 128]⟩, .string ⟨#[240, 159]⟩, .string ⟨#[240, 159, 152]⟩, .string ⟨#[244, 144]⟩, .string ⟨#[245]⟩, .string ⟨#[224, 160]⟩] 9) := ⟨_, rfl⟩
  have hsh : ∀ i, i < 20 -> Short W w.heap.size i := by
   intro i hi
   rw [hW]
   unfold Short
   rcases (show i = 0 \/ i = 1 \/ i = 2 \/ i = 3 \/ i = 4 \/ i = 5 \/ i = 6 \/ i = 7 \/ i = 8 \/ i = 9 \/ i = 10 \/ i = 11 \/ i = 12 \/ i = 13 \/ i = 14 \/ i = 15 \/ i = 16 \/ i = 17 \/ i = 18 \/ i = 19 by omega) with rfl | rfl | rfl | rfl | rfl | rfl | rfl | rfl | rfl | rfl | rfl | rfl | rfl | rfl | rfl | rfl | rfl | rfl | rfl | rfl <;> (refine ⟨_, ?_, (by simp [go_sem]; rfl)⟩; decide)
  have hbW : Below w.heap.size w W := by rw [hW]; exact (Below.refl _ _).alloc (Nat.le_refl _) _
  have hwz : w.heap.size < W.heap.size := by rw [hW]; simp
  rw [<- hW]
  have HSH := Lib.hid hsh; have HBW := Lib.hid hbW
  clear hsh hbW hW
  go_loopw [6, 7] (fun s i wr => ∃ (k : Nat) (S : ByteArray), k <= len0 /\ k <= 40 /\ i = .int .i64 k /\ s = .string S /\ S.size <= 1300 /\ wr = W) (fun _ i _ => len0 - (intOf i).toNat)
  case atStart => exact ⟨0, _, Nat.zero_le _, by omega, rfl, rfl, by decide, rfl⟩
  case round =>
   obtain ⟨k, S, hk, hk40, rfl, rfl, hS, rfl⟩ := hrel
   have k0 : (0 : Int) <= (k : Int) := Int.natCast_nonneg _
   by_cases hgo : k < len0 /\ k < 40 /\ S.size < 1000
   ·obtain ⟨hlt, h40, h1000⟩ := hgo
    obtain ⟨b, off, rfl, hbs, hc, hwf⟩ := HR0.out.at k hlt
    have hx : wr.cell? ⟨b, off + k, none⟩ = some (.int .i64 (z0.getD k 0)) := by
     have h1 := (ubcell (HW0.out.trans (HBW.out.mono hw0z))).1 b (off + k) hbs
     rw [h1]; exact hc k hlt
    have WX := hwf k hlt
    have WX32 := Lib.hid (tdiv_wf _ 32 (by omega) WX)
    have WX256 := Lib.hid (tdiv_wf _ 256 (by omega) WX)
    have hbx := bounds_i64 WX
    have WX := Lib.hid WX
    clear hc hwf
    generalize z0.getD k 0 = x at *
    have k1 : (k : Int) < (len0 : Int) := by omega
    have x0 : 0 <= x % 20 := by omega
    have x1 : x % 20 < 20 := by omega
    obtain ⟨j, hj⟩ : ∃ j : Nat, x % 20 = (j : Int) := ⟨(x % 20).toNat, by omega⟩
    obtain ⟨T, hT, hcT⟩ := HSH.out j (by omega)
    have j0 : (0 : Int) <= (j : Int) := Int.natCast_nonneg _
    have j1 : (j : Int) < 20 := by omega
    have HJ := Lib.hid hj; clear hj x0 x1
    have hST : (S ++ T).size = S.size + T.size := ByteArray.size_append
    have HST := Lib.hid hST; clear hST
    have hm : ∃ m : Nat, (x.tdiv 256) % ((len1 : Int) + 1) = (m : Int) /\ m <= len1 := by
     have h0 : 0 <= (x.tdiv 256) % ((len1 : Int) + 1) := Int.emod_nonneg _ (by omega)
     have h1 : (x.tdiv 256) % ((len1 : Int) + 1) < (len1 : Int) + 1 := Int.emod_lt_of_pos _ (by omega)
     exact ⟨((x.tdiv 256) % ((len1 : Int) + 1)).toNat, by omega, by omega⟩
    obtain ⟨m, hm, hml⟩ := hm
    have m0 : (0 : Int) <= (m : Int) := Int.natCast_nonneg _
    have m1 : (m : Int) <= (len1 : Int) := by omega
    have HM := Lib.hid hm; clear hm
    by_cases h8 : (x.tdiv 32) % 8 = 0
    ·have t8 : (((x.tdiv 32) % 8) == 0) = true := by simpa using h8
     have h9 : ((S ++ T) ++ strOfNums (z1.take m)).size <= 1300 := by
      rw [ByteArray.size_append, HST.out, strOfNums_size, List.length_take]; omega
     have H9 := Lib.hid h9
     have h10 : (strOfNums (z1.take m)).size <= 250 := by rw [strOfNums_size, List.length_take]; omega
     have h11 : (S ++ T).size <= 1004 := by rw [HST.out]; omega
     clear h8 h9
     go_wp2_with fail
     refine (uwithin_any x 20 _ WX.out (by omega) (by omega)).mono ?_; rintro e w' ⟨rfl, rfl⟩
     rw [HJ.out]
     go_wp2_with fail
     refine (uwithin_any _ 8 _ WX32.out (by omega) (by omega)).mono ?_; rintro e w' ⟨rfl, rfl⟩
     go_wp2_with fail
     refine (uwithin_any _ ((len1 : Int) + 1) _ WX256.out (by omega) (by omega)).mono ?_; rintro e w' ⟨rfl, rfl⟩
     rw [HM.out]
     go_wp2_with fail
     rw [conv_row HR1.out hml (HW0.out.trans (HBW.out.mono hw0z))]
     simp only [Result.andThen]
     rw [Oper.upon_value]
     go_wp2_with fail
     exact ⟨⟨k + 1, _, by omega, by omega, by go_num, rfl, H9.out, by trivial⟩, by simp [intOf]; omega⟩
    ·have t8 : (((x.tdiv 32) % 8) == 0) = false := by simpa using h8
     have h9 : (S ++ T).size <= 1300 := by rw [HST.out]; omega
     have H9 := Lib.hid h9; clear h8 h9
     go_wp2_with fail
     refine (uwithin_any x 20 _ WX.out (by omega) (by omega)).mono ?_; rintro e w' ⟨rfl, rfl⟩
     rw [HJ.out]
     go_wp2_with fail
     refine (uwithin_any _ 8 _ WX32.out (by omega) (by omega)).mono ?_; rintro e w' ⟨rfl, rfl⟩
     go_wp2_with fail
     exact ⟨⟨k + 1, _, by omega, by omega, by go_num, rfl, H9.out, by trivial⟩, by simp [intOf]; omega⟩
   ·have hd : (len0 <= k /\ decide ((k : Int) < (len0 : Int)) = false) \/ (k < len0 /\ 40 <= k /\ decide ((k : Int) < 40) = false) \/ (k < len0 /\ k < 40 /\ 1000 <= S.size /\ decide ((S.size : Int) < 1000) = false) := by simp; omega
    clear hgo
    rcases hd with ⟨d1, d2⟩ | ⟨d1, d2, d3⟩ | ⟨d1, d2, d3, d4⟩
    all_goals
     go_wp2_with fail
     go_ret
     exact ⟨S, rfl, hS, HBW.out⟩
end Go.Proofs.Ytacgakkcpmhgmaa
