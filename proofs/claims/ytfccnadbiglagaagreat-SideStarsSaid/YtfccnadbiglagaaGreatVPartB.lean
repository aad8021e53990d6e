/- Contract of part.owners. Contracts of names.letter and part.Cuts. -/
import Derived.Test.YtfccnadbiglagaaGreatVPartA
import Derived.Test.YtfccnadbiglagaaGreatVSmall
import Derived.Laws.ShiftsVar
import Derived.Laws.ShiftsVarLaws
import Derived.Test.YtfccnadbiglagaaGreatVLL
import Derived.Maps.OwnSet
set_option linter.unusedVariables false
set_option linter.unusedSimpArgs false
set_option maxHeartbeats 2000000
namespace Go.Proofs.YtfccnadbiglagaaGreat
open Go Go.RowKit
theorem keyL_snoc (ss : List (List (Int × Int))) (n : Int) (k : Nat) (hk : k < ss.length) : keyL (ss.take (k + 1)) n = keyL (ss.take k) n ++ [hasB (ss.getD k []) n] := by
 unfold keyL hasB
 have e : ss.getD k [] = ss[k] := by simp [List.getD, List.getElem?_eq_getElem hk]
 rw [List.take_succ_eq_append_getElem hk, List.map_append, e]
 simp
theorem pow_le (k : Nat) (hk : k <= 13) : 1 <= 2 ^ k /\ 2 ^ k <= 8192 := ⟨Nat.one_le_two_pow, by have := Nat.pow_le_pow_right (show 0 < 2 by omega) hk; simpa using this⟩
theorem or_pow (B k : Nat) (hB : B < 2 ^ k) (hk : k <= 13) : bits .or .i64 (B : Int) (wrap64 (2 ^ k)) = ((B + 2 ^ k : Nat) : Int) := by
 obtain ⟨h1, h2⟩ := pow_le k hk
 have e : wrap64 (2 ^ k) = ((2 ^ k : Nat) : Int) := by
  have e1 : ((2 : Int) ^ k) = ((2 ^ k : Nat) : Int) := by simp
  rw [e1]; unfold wrap64; omega
 rw [e, (bits_nat .i64 63 (by decide) wraps_i64 B (2 ^ k) (by omega) (by omega)).2]
 have := Nat.two_pow_add_eq_or_of_lt hB 1
 rw [Nat.mul_one] at this
 rw [Nat.or_comm, <- this, Nat.add_comm]
theorem owners_any {w : World} {v : Value} {k0 : Nat} {ss : List (List (Int × Int))} {n : Int} (h : ReadsL w v k0 ss) (hr : RtAll ss) (hk0 : k0 <= 13) :
  Calls Tryz.prog 95 #[v, .int .i64 n] w fun e w' => e = .returned (.int .i64 (bitsN (keyL ss n) : Nat)) /\ Below w.heap.size w w' := by
  obtain ⟨a, cap, rfl, hc, hm, hl⟩ := h.form
  have H := Lib.hid h; have HR := Lib.hid hr; have HL := Lib.hid hl; clear h hr hl
  go_enter Tryz.func95, Tryz.ntmps95
  go_wp2_with fail
  go_loopw [5, 10] (fun s i wr => ∃ (k B : Nat), k <= k0 /\ i = .int .i64 k /\ s = .int .i64 B /\ Hid (B = bitsN (keyL (ss.take k) n)) /\ Hid (Below w.heap.size w wr)) (fun _ i _ => k0 - (intOf i).toNat)
  case atStart => exact ⟨0, 0, Nat.zero_le _, rfl, rfl, Lib.hid rfl, Lib.hid (Below.refl _ _)⟩
  case round =>
   obtain ⟨k, B, hk, rfl, rfl, HS, HB⟩ := hrel
   have hz := HB.out.size
   have i0 : (0 : Int) <= (k : Int) := Int.natCast_nonneg _
   by_cases hlt : k < k0
   ·have i1 : (k : Int) < (k0 : Int) := by omega
    have t1 : decide (k < k0) = true := by simpa using hlt
    obtain ⟨b, off, u, rfl, c1, hu⟩ := H.out.at k hlt
    have hbl := World.block_lt_of_cell? w _ c1
    have c1 := (HB.out.cell (p := ⟨b, off + k, none⟩) hbl).trans c1
    have HRk := Lib.hid (HR.out.at k (by rw [HL.out]; exact hlt))
    have SN := Lib.hid (keyL_snoc ss n k (by rw [HL.out]; exact hlt))
    have hlk : (keyL (ss.take k) n).length = k := by rw [keyL_len, List.length_take, HL.out]; omega
    have hB := bitsN_lt (keyL (ss.take k) n)
    rw [<- HS.out, hlk] at hB
    have hp := pow_le k (by omega)
    have SB := Lib.hid (bitsN_snoc (keyL (ss.take k) n) (hasB (ss.getD k []) n))
    rw [hlk, <- HS.out] at SB
    generalize ss.getD k [] = l at *
    have HU := Lib.hid (ReadsP.below hu HB.out); clear hu
    have hH := has_any (x := n) HU.out HRk.out
    generalize hasB l n = bb at *
    have HH := Lib.hid hH; clear hH hlk
    go_wp2_with fail
    refine HH.out.mono ?_
    rintro e w2 ⟨rfl, h2⟩
    have HB2 := Lib.hid (HB.out.trans (h2.mono hz)); clear h2
    cases bb
    ·go_wp2_with fail
     exact ⟨⟨k + 1, B, by omega, by go_num, rfl, Lib.hid (by rw [SN.out, SB.out]; simp), HB2⟩, by simp [intOf]; omega⟩
    ·go_wp2_with fail
     exact ⟨⟨k + 1, B + 2 ^ k, by omega, by go_num, by rw [or_pow B k hB (by omega)], Lib.hid (by rw [SN.out, SB.out]; simp), HB2⟩, by simp [intOf]; omega⟩
   ·have e : ss.take k = ss := List.take_of_length_le (by rw [HL.out]; omega)
    have HE := Lib.hid e; clear e
    go_wp2_with fail
    go_ret
    exact ⟨by rw [HS.out, HE.out]; rfl, HB.out⟩
end Go.Proofs.YtfccnadbiglagaaGreat
namespace Go.Proofs.YtfccnadbiglagaaGreat
open Go Go.RowKit
open Go.Maps (Keyed Tidy int_keyed keyOf_int_mk)
theorem lawI : Keyed Tryz.prog 3 := int_keyed Tryz.underlying3
theorem zeroI (w : World) : (zeroValue 3).run Tryz.prog w = .ok (.int .i64 0) w := by kernel_rfl
abbrev MapAt (w : World) (b n : Nat) (D : DataW Unit) : Prop := w.ownsMap Tryz.prog 3 (plainElem Tryz.prog 3) b n D
def MapOf (D : DataW Unit) (ks : List Nat) : Prop :=
 Tidy D /\ Maps.size D = ks.length /\ ∀ j : Nat, Maps.has D (.int .i64 j) = decide (j ∈ ks) /\ (j ∈ ks -> D.atKey (.int .i64 j) (.lit (.int .i64 0)) = .lit (.int .i64 (ix ks j : Nat)))
theorem MapOf.nil : MapOf (.map []) [] := ⟨Maps.tidy_empty, rfl, fun j => ⟨rfl, fun h => by cases h⟩⟩
theorem MapOf.put {D : DataW Unit} {ks : List Nat} (h : MapOf D ks) (j : Nat) (hj : j ∉ ks) : MapOf (D.put (.int .i64 j) (.lit (.int .i64 (ks.length : Nat)))) (ks ++ [j]) := by
 obtain ⟨h1, h2, h3⟩ := h
 have hf : Maps.has D (.int .i64 j) = false := by rw [(h3 j).1]; simpa using hj
 refine ⟨h1.put (by simp [WideAt.IsKeyLit]) _, ?_, fun i => ?_⟩
 ·rw [Maps.size_put h1, hf, h2]; simp
 ·by_cases e : i = j
  ·subst e
   constructor
   ·rw [Maps.has_put_same h1.isMap (by simp [WideAt.IsKeyLit])]; simp
   ·intro _
    rw [Maps.atKey_put_same h1.isMap (by simp [WideAt.IsKeyLit]), ix_append, if_neg hj, ix_self, Nat.zero_add]
  ·have hne : (Lit.int .i64 (i : Int)) ≠ .int .i64 j := by
    intro q; apply e; have : (i : Int) = (j : Int) := by simpa using q
    omega
   constructor
   ·rw [Maps.has_put_other hne, (h3 i).1, decide_eq_decide]
    simp [e]
   ·intro hi
    have hi' : i ∈ ks := by simpa [e] using hi
    rw [Maps.atKey_put_other hne, (h3 i).2 hi', ix_append, if_pos hi']
theorem MapAt.below {w w' : World} {b n : Nat} {D : DataW Unit} (h : MapAt w b n D) (hb : Below w.heap.size w w') : MapAt w' b n D := by
 obtain ⟨es, clock, hh, r⟩ := h
 exact ⟨es, clock, by rw [hb.block b (Array.getElem?_eq_some_iff.1 hh).1]; exact hh, r⟩
theorem MapAt.lt {w : World} {b n : Nat} {D : DataW Unit} (h : MapAt w b n D) : b < w.heap.size := by
 obtain ⟨es, clock, hh, r⟩ := h
 exact (Array.getElem?_eq_some_iff.1 hh).1
def Lettered (w : World) (b n : Nat) (ks : List Nat) (j : Nat) (e : Ending) (w' : World) : Prop :=
 ∃ D, e = .returned (.int .i64 ((if j ∈ ks then ix ks j else ks.length : Nat) : Int)) /\ MapAt w' b (n + 1) D /\ MapOf D (if j ∈ ks then ks else ks ++ [j]) /\ w.grownBy w' (some b)
theorem letter_any {w : World} {b n : Nat} {D : DataW Unit} {ks : List Nat} (hown : MapAt w b n D) (hM : MapOf D ks) (j : Nat) (hj : j < 1000000000) (hn : n < 1000000000) (hk : ks.length < 1000000000) :
  Calls Tryz.prog 94 #[.map (some b), .int .i64 j] w (Lettered w b n ks j) := by
  have hkey := keyOf_int_mk (P := Tryz.prog) (k := 3) Tryz.underlying3 (a := (j : Int)) (WalkArith.wf_i64 (by omega))
  have hn' : n < maxLen := by unfold maxLen; omega
  have hwl : (Lit.int .i64 ((ks.length : Nat) : Int)).wf = true := WalkArith.wf_i64 (by omega)
  have HM := Lib.hid hM
  have hsz := hM.2.1
  have hhas := (hM.2.2 j).1
  have hat0 := (hM.2.2 j).2
  clear hM
  by_cases hin : j ∈ ks
  ·have hat1 := hat0 hin
   have h1 : Maps.has D (.int .i64 j) = true := by rw [hhas]; simpa using hin
   have HSZ := Lib.hid hsz; have H1 := Lib.hid h1; have HA := Lib.hid hat1; have HIN := Lib.hid hin; have HK := Lib.hid hkey
   clear hsz h1 hat1 hhas hat0 hin hkey
   go_enter Tryz.func94, Tryz.ntmps94
   go_wp2_with (at_lookup; refine wpList_lookup_own_ok_int _ rfl _ _ 144 rfl 3 3 .i64 lawI Tryz.underlying144 Tryz.underlying3 (zeroI _) b n D rfl hown _ _ rfl HK.out ?_
                intro c hat hwc
                rw [H1.out]
                have hc := Lib.hid (show c = (ix ks j : Nat) by rw [HA.out] at hat; simpa using hat.symm)
                clear hat)
   go_ret
   refine ⟨D, ?_, hown.mono (by omega), ?_, ⟨rfl, rfl, rfl, Nat.le_refl _, fun _ _ _ => rfl⟩⟩
   ·rw [if_pos HIN.out, hc.out]; rfl
   ·rw [if_pos HIN.out]; exact HM.out
  ·have h1 : Maps.has D (.int .i64 j) = false := by rw [hhas]; simpa using hin
   have HSZ := Lib.hid hsz; have H1 := Lib.hid h1; have HIN := Lib.hid hin; have HK := Lib.hid hkey
   clear hsz h1 hhas hat0 hin hkey
   go_enter Tryz.func94, Tryz.ntmps94
   go_wp2_with (first
    | (at_lookup; refine wpList_lookup_own_ok_int _ rfl _ _ 144 rfl 3 3 .i64 lawI Tryz.underlying144 Tryz.underlying3 (zeroI _) b n D rfl hown _ _ rfl HK.out ?_
       intro c hat hwc
       rw [H1.out]
       clear hat)
    | (at_len; refine wpList_len_own _ rfl _ 144 rfl 3 3 Tryz.underlying144 _ b n D rfl hown ?_; rw [HSZ.out])
    | (at_mapUpdate; refine wpList_mapUpdate_own _ rfl _ _ _ 144 rfl 3 3 lawI Tryz.underlying144 _ b n D rfl hown hn' _ _ _ rfl rfl HK.out _ [] (plainElem_int Tryz.underlying3 hwl) ?_
       intro w1 hown1 hg1))
   go_ret
   refine ⟨_, ?_, hown1, ?_, hg1⟩
   ·rw [if_neg HIN.out]; rfl
   ·rw [if_neg HIN.out]; exact HM.out.put j HIN.out
end Go.Proofs.YtfccnadbiglagaaGreat
