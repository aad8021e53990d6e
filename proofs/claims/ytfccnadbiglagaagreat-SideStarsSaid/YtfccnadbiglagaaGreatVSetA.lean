/- Contracts of set.clip. -/
import Derived.Test.YtfccnadbiglagaaGreatVPlC
import Derived.Test.YtfccnadbiglagaaGreatVPair
import Derived.LoopTactic
import Derived.Outline
import Derived.Deep.QuietTactic
import Derived.BigQuiet
import Derived.IntWalk
set_option linter.unusedVariables false
set_option linter.unusedSimpArgs false
set_option maxHeartbeats 1000000
namespace Go.Proofs.YtfccnadbiglagaaGreat
open Go Go.RowKit
def Tells (w : World) (R : List (Int × Int)) (e : Ending) (w' : World) : Prop := ∃ v, e = .returned v /\ OwnP w' w.heap.size v R.length R /\ Below w.heap.size w w'
def clipL (l : List (Int × Int)) : List (Int × Int) := l.filterMap fun r => if max r.1 0 <= min r.2 1114111 then some (max r.1 0, min r.2 1114111) else none
theorem clipL_snoc (l : List (Int × Int)) (k : Nat) (hk : k < l.length) : clipL (l.take (k + 1)) = clipL (l.take k) ++ (if max (l.getD k (0, 0)).1 0 <= min (l.getD k (0, 0)).2 1114111 then [(max (l.getD k (0, 0)).1 0, min (l.getD k (0, 0)).2 1114111)] else []) := by
 unfold clipL
 rw [List.take_succ_eq_append_getElem hk, List.filterMap_append]
 have e : l.getD k (0, 0) = l[k] := by simp [List.getD, List.getElem?_eq_getElem hk]
 rw [e]
 congr 1
 simp only [List.filterMap_cons, List.filterMap_nil]
 split <;> simp_all
theorem clipL_len (l : List (Int × Int)) : (clipL l).length <= l.length := List.length_filterMap_le _ _
theorem maxI (x : Int) : max x 0 = if x < 0 then 0 else x := by split <;> omega
theorem minI (y : Int) : min y 1114111 = if 1114111 < y then 1114111 else y := by split <;> omega
theorem new2 (w : World) (x y : Value) (t : TypeId) : (w.alloc (.cells #[x, y] t)).cell? ⟨w.heap.size, 0, none⟩ = some x /\ (w.alloc (.cells #[x, y] t)).cell? ⟨w.heap.size, 1, none⟩ = some y := by
 constructor <;> (rw [World.cell?_alloc_at _ _ _ _ (by simp)]; rfl)
theorem OwnP.ne_top {w : World} {B n : Nat} {v : Value} {l : List (Int × Int)} (h : OwnP w B v n l) : some w.heap.size ≠ v.ownBlock := fun e => by have := (h.lt _ e.symm).2; omega
theorem clip_any {w : World} {v : Value} {n : Nat} {l : List (Int × Int)} (h : ReadsP w v n l) (hn : n <= 1000000000) :
  Calls Tryz.prog 132 #[v] w (Tells w (clipL l)) := by
  have h0 := h
  obtain ⟨a, cap, rfl, hc, hm, hl⟩ := h.form
  have H0 := Lib.hid h0; clear h h0
  have HL := Lib.hid hl; clear hl
  go_enter Tryz.func132, Tryz.ntmps132
  go_wp2_with fail
  go_loopw [3, 8] (fun s i wr => ∃ k : Nat, k <= n /\ i = .int .i64 k /\ OwnP wr w.heap.size s (clipL (l.take k)).length (clipL (l.take k)) /\ Below w.heap.size w wr) (fun _ i _ => n - (intOf i).toNat)
  case atStart => exact ⟨0, Nat.zero_le _, rfl, OwnP.nil _ _, Below.refl _ _⟩
  case round =>
   obtain ⟨k, hk, rfl, hown, hb⟩ := hrel
   by_cases hlt : k < n
   ·have hr := H0.out.below hb
    obtain ⟨b, off, rfl, hbl, c1, c2⟩ := hr.at k hlt
    have SN := Lib.hid (clipL_snoc l k (by rw [HL.out]; exact hlt))
    have hlen := clipL_len (l.take k)
    have hlen2 : (l.take k).length <= k := List.length_take_le _ _
    clear hr
    have i0 : (0 : Int) <= (k : Int) := Int.natCast_nonneg _
    have i1 : (k : Int) < (n : Int) := by omega
    generalize (l.getD k (0, 0)).1 = x at *
    generalize (l.getD k (0, 0)).2 = y at *
    have HV := Lib.hid hown; have HB := Lib.hid hb; have hz := hb.size; clear hown hb
    by_cases hc1 : (if x < 0 then 0 else x) <= if 1114111 < y then 1114111 else y
    ·rw [if_pos (by rw [<- maxI, <- minI] at hc1; exact hc1)] at SN
     go_wp2_with (at_builtin; refine wpList_pushP rfl (.tmp 24) (.tmp 26) rfl w.heap.size _ _ _ _ _ _ (by rfl) (HV.out.alloc _) _ (by rfl) (by simp) (by omega) (by simp; omega) ?_
                  intro g1 c1 w2 hp1
                  have HP1 := Lib.hid hp1; clear hp1)
     all_goals
      refine ⟨⟨k + 1, by omega, by go_num, ?_, HP1.out.below (HB.out.alloc hz _) (Nat.le_refl _) (by simp; omega)⟩, by simp [intOf]; omega⟩
      rw [SN.out, List.length_append, List.length_singleton, maxI, minI]
      exact HP1.out.own
    ·rw [if_neg (by rw [<- maxI, <- minI] at hc1; exact hc1)] at SN
     go_wp2_with fail
     all_goals
      refine ⟨⟨k + 1, by omega, by go_num, ?_, HB.out.alloc hz _⟩, by simp [intOf]; omega⟩
      rw [SN.out, List.append_nil]
      exact HV.out.alloc _
   ·have HV := Lib.hid hown; have HB := Lib.hid hb; clear hown hb
    go_wp2
    go_ret
    have e : l.take k = l := List.take_of_length_le (by have := HL.out; omega)
    exact ⟨_, rfl, by have := HV.out; rw [e] at this; exact this, HB.out⟩
end Go.Proofs.YtfccnadbiglagaaGreat
