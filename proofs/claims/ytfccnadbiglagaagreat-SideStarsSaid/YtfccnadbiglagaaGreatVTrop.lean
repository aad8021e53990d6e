/- Contracts of the small functions of chapter 1's law texts: within, Cost, Add, the document's own Add: what each returns, for every number that may be. Contracts of trop.Min and of the document's own Least, at any slice of numbers. -/
import Derived.Test.YtfccnadbiglagaaGreatRows
import Derived.WalkKit
import Derived.WalkSpells
import Derived.Lib.Hide
import Derived.LoopTactic
import Derived.OpenShut
set_option linter.unusedVariables false
set_option linter.unusedSimpArgs false
set_option maxHeartbeats 400000
namespace Go.Proofs.YtfccnadbiglagaaGreat
open Go.RowKit
theorem ret_int {k : IntKind} {a b : Int} (h : a = b) : Ending.returned (.int k a) = .returned (.int k b) := by rw [h]
def IsCost (x : Int) : Prop := 0 <= x /\ x <= 1152921504606846976
def cost (n : Int) : Int :=
 if n % 8 = 0 then 1152921504606846976 else if n % 8 = 1 then 1152921504606846975 - (n.tdiv 8) % 5 else if n % 8 = 2 then (n.tdiv 8) % 1152921504606846976 else (n.tdiv 8) % 2000
def plus (a b : Int) : Int := if 1152921504606846976 <= a + b then 1152921504606846976 else a + b
theorem add_any (a b : Int) (w : World) (ha : IsCost a) (hb : IsCost b) :
  Calls Tryz.prog 101 #[.int .i64 a, .int .i64 b] w fun e w' => e = .returned (.int .i64 (plus a b)) /\ w = w' := by
  obtain ⟨h1, h2⟩ := ha; obtain ⟨h3, h4⟩ := hb
  by_cases h : 1152921504606846976 <= a + b
  ·have hc : plus a b = 1152921504606846976 := if_pos h
   have HC := Lib.hid hc; clear hc
   go_enter Tryz.func101, Tryz.ntmps101
   go_wp2_with fail
   go_ret
   exact ⟨ret_int HC.out.symm, rfl⟩
  ·have hc : plus a b = a + b := if_neg h
   have HC := Lib.hid hc; clear hc
   go_enter Tryz.func101, Tryz.ntmps101
   go_wp2_with fail
   go_ret
   exact ⟨ret_int HC.out.symm, rfl⟩
end Go.Proofs.YtfccnadbiglagaaGreat
namespace Go.Proofs.YtfccnadbiglagaaGreat
open Go.RowKit
def least (l : List Int) : Int := l.foldl (fun m n => if n < m then n else m) 1152921504606846976
theorem least_snoc (l : List Int) (n : Int) : least (l ++ [n]) = if n < least l then n else least l := by
 unfold least; rw [List.foldl_append]; rfl
theorem take_snoc (l : List Int) (k : Nat) (h : k < l.length) : l.take (k + 1) = l.take k ++ [l.getD k 0] := by
 rw [List.take_succ_eq_append_getElem h]; simp [h]
theorem min_any (l : List Int) (len cap : Nat) (b off : Nat) (w : World) (hl : l.length = len) (hm : len <= 9223372036854775806)
  (hc : ∀ i, i < len -> w.cell? ⟨b, off + i, none⟩ = some (.int .i64 (l.getD i 0))) :
  Calls Tryz.prog 100 #[.slice (some ⟨b, off, none⟩) len cap] w fun e w' => e = .returned (.int .i64 (least l)) /\ w = w' := by
  have HL := Lib.hid hl; clear hl
  have HC := Lib.hid hc; clear hc
  go_enter Tryz.func100, Tryz.ntmps100
  go_wp2_with fail
  go_loop [3, 8] (fun m i => ∃ k : Nat, k <= len /\ i = .int .i64 k /\ m = .int .i64 (least (l.take k))) (fun _ i => len - (intOf i).toNat)
  case atStart => exact ⟨0, Nat.zero_le _, rfl, rfl⟩
  case round =>
   obtain ⟨k, hk, rfl, rfl⟩ := hrel
   by_cases hlt : k < len
   ·have hcell := HC.out k hlt
    have hs := least_snoc (l.take k) (l.getD k 0)
    rw [<- take_snoc l k (by rw [HL.out]; exact hlt)] at hs
    have HS := Lib.hid hs; clear hs
    generalize hm : least (l.take k) = m at *
    generalize hx : l.getD k 0 = x at *
    have HM := Lib.hid hm; clear hm
    have HX := Lib.hid hx; clear hx
    by_cases hxm : x < m
    ·go_wp2
     go_round
     case rel => exact ⟨k + 1, by omega, by go_num, by rw [HS.out, if_pos hxm]⟩
     case measure => simp [intOf]; omega
    ·go_wp2
     go_round
     case rel => exact ⟨k + 1, by omega, by go_num, by rw [HS.out, if_neg hxm]⟩
     case measure => simp [intOf]; omega
   ·go_wp2
    go_ret
    exact ⟨ret_int (by rw [List.take_of_length_le (by rw [HL.out]; omega)]), rfl⟩
end Go.Proofs.YtfccnadbiglagaaGreat
