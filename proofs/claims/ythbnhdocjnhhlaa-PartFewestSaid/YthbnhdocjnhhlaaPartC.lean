/- Contracts of names.letter and part.Cuts. -/
import Derived.Test.YthbnhdocjnhhlaaPartB
import Derived.Test.YthbnhdocjnhhlaaReadsI
import Derived.Maps.OwnSet
namespace Go.Proofs.Ythbnhdocjnhhlaa
open Go Go.RowKit
open Go.Maps (Keyed Tidy int_keyed keyOf_int_mk)
set_option linter.unusedVariables false

theorem lawI : Keyed Try.prog 3 := int_keyed Try.underlying3
theorem zeroI (w : World) : (zeroValue 3).run Try.prog w = .ok (.int .i64 0) w := by kernel_rfl
abbrev MapAt (w : World) (b n : Nat) (D : DataW Unit) : Prop := w.ownsMap Try.prog 3 (plainElem Try.prog 3) b n D

/-- The map D leads each of the keys to its place. -/
def MapOf (D : DataW Unit) (ks : List Nat) : Prop :=
  Tidy D ∧ Maps.size D = ks.length ∧ ∀ j : Nat, Maps.has D (.int .i64 j) = decide (j ∈ ks) ∧ (j ∈ ks → D.atKey (.int .i64 j) (.lit (.int .i64 0)) = .lit (.int .i64 (ix ks j : Nat)))
theorem MapOf.nil : MapOf (.map []) [] := ⟨Maps.tidy_empty, rfl, fun j => ⟨rfl, fun h => by cases h⟩⟩
theorem MapOf.put {D : DataW Unit} {ks : List Nat} (h : MapOf D ks) (j : Nat) (hj : j ∉ ks) : MapOf (D.put (.int .i64 j) (.lit (.int .i64 (ks.length : Nat)))) (ks ++ [j]) := by
  obtain ⟨h1, h2, h3⟩ := h
  have hf : Maps.has D (.int .i64 j) = false := by rw [(h3 j).1]; simpa using hj
  refine ⟨h1.put (by simp [WideAt.IsKeyLit]) _, ?_, fun i => ?_⟩
  · rw [Maps.size_put h1, hf, h2]; simp
  · by_cases e : i = j
    · subst e
      constructor
      · rw [Maps.has_put_same h1.isMap (by simp [WideAt.IsKeyLit])]; simp
      · intro _
        rw [Maps.atKey_put_same h1.isMap (by simp [WideAt.IsKeyLit]), ix_append, if_neg hj, ix_self, Nat.zero_add]
    · have hne : (Lit.int .i64 (i : Int)) ≠ .int .i64 j := by
        intro q; apply e; have : (i : Int) = (j : Int) := by simpa using q
        omega
      constructor
      · rw [Maps.has_put_other hne, (h3 i).1, decide_eq_decide]
        simp [e]
      · intro hi
        have hi' : i ∈ ks := by simpa [e] using hi
        rw [Maps.atKey_put_other hne, (h3 i).2 hi', ix_append, if_pos hi']

theorem MapAt.below {w w' : World} {b n : Nat} {D : DataW Unit} (h : MapAt w b n D) (hb : Below w.heap.size w w') : MapAt w' b n D := by
  obtain ⟨es, clock, hh, r⟩ := h
  exact ⟨es, clock, by rw [hb.block b (Array.getElem?_eq_some_iff.1 hh).1]; exact hh, r⟩
theorem MapAt.lt {w : World} {b n : Nat} {D : DataW Unit} (h : MapAt w b n D) : b < w.heap.size := by
  obtain ⟨es, clock, hh, r⟩ := h
  exact (Array.getElem?_eq_some_iff.1 hh).1

/-- What letter tells, and leaves. -/
def Lettered (w : World) (b n : Nat) (ks : List Nat) (j : Nat) (e : Ending) (w' : World) : Prop :=
  ∃ D, e = .returned (.int .i64 ((if j ∈ ks then ix ks j else ks.length : Nat) : Int)) ∧ MapAt w' b (n + 1) D ∧ MapOf D (if j ∈ ks then ks else ks ++ [j]) ∧ w.grownBy w' (some b)
set_option maxHeartbeats 2000000 in
theorem letter_any {w : World} {b n : Nat} {D : DataW Unit} {ks : List Nat} (hown : MapAt w b n D) (hM : MapOf D ks) (j : Nat) (hj : j < 1000000000) (hn : n < 1000000000) (hk : ks.length < 1000000000) :
    Calls Try.prog 27 #[.map (some b), .int .i64 j] w (Lettered w b n ks j) := by
  have hkey := keyOf_int_mk (P := Try.prog) (k := 3) Try.underlying3 (a := (j : Int)) (WalkArith.wf_i64 (by omega))
  have hn' : n < maxLen := by unfold maxLen; omega
  have hwl : (Lit.int .i64 ((ks.length : Nat) : Int)).wf = true := WalkArith.wf_i64 (by omega)
  have HM := Lib.hid hM
  have hsz := hM.2.1
  have hhas := (hM.2.2 j).1
  have hat0 := (hM.2.2 j).2
  clear hM
  by_cases hin : j ∈ ks
  · have hat1 := hat0 hin
    have h1 : Maps.has D (.int .i64 j) = true := by rw [hhas]; simpa using hin
    have HSZ := Lib.hid hsz; have H1 := Lib.hid h1; have HA := Lib.hid hat1; have HIN := Lib.hid hin; have HK := Lib.hid hkey
    clear hsz h1 hat1 hhas hat0 hin hkey
    go_enter Try.func27, Try.ntmps27
    go_wp2_with (at_lookup; refine wpList_lookup_own_ok_int _ rfl _ _ 48 rfl 3 3 .i64 lawI Try.underlying48 Try.underlying3 (zeroI _) b n D rfl hown _ _ rfl HK.out ?_
                 intro c hat hwc
                 rw [H1.out]
                 have hc := Lib.hid (show c = (ix ks j : Nat) by rw [HA.out] at hat; simpa using hat.symm)
                 clear hat)
    go_ret
    refine ⟨D, ?_, hown.mono (by omega), ?_, ⟨rfl, rfl, rfl, Nat.le_refl _, fun _ _ _ => rfl⟩⟩
    · rw [if_pos HIN.out, hc.out]; rfl
    · rw [if_pos HIN.out]; exact HM.out
  · have h1 : Maps.has D (.int .i64 j) = false := by rw [hhas]; simpa using hin
    have HSZ := Lib.hid hsz; have H1 := Lib.hid h1; have HIN := Lib.hid hin; have HK := Lib.hid hkey
    clear hsz h1 hhas hat0 hin hkey
    go_enter Try.func27, Try.ntmps27
    go_wp2_with (first
      | (at_lookup; refine wpList_lookup_own_ok_int _ rfl _ _ 48 rfl 3 3 .i64 lawI Try.underlying48 Try.underlying3 (zeroI _) b n D rfl hown _ _ rfl HK.out ?_
         intro c hat hwc
         rw [H1.out]
         clear hat)
      | (at_len; refine wpList_len_own _ rfl _ 48 rfl 3 3 Try.underlying48 _ b n D rfl hown ?_; rw [HSZ.out])
      | (at_mapUpdate; refine wpList_mapUpdate_own _ rfl _ _ _ 48 rfl 3 3 lawI Try.underlying48 _ b n D rfl hown hn' _ _ _ rfl rfl HK.out _ [] (plainElem_int Try.underlying3 hwl) ?_
         intro w1 hown1 hg1))
    go_ret
    refine ⟨_, ?_, hown1, ?_, hg1⟩
    · rw [if_neg HIN.out]; rfl
    · rw [if_neg HIN.out]; exact HM.out.put j HIN.out

end Go.Proofs.Ythbnhdocjnhhlaa
