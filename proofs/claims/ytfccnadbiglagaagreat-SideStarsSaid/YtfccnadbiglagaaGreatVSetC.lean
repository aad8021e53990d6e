/- The library's slices.SortFunc at ranges by their beginnings: what a row of the call's own holds behind it. -/
import Derived.Test.YtfccnadbiglagaaGreatVSetA
import Derived.Test.YtfccnadbiglagaaGreatVShelfB
import Derived.Sort.OwnSorted
import Derived.BigCall
set_option linter.unusedVariables false
set_option linter.unusedSimpArgs false
namespace Go.Proofs.YtfccnadbiglagaaGreat
open Go Go.RowKit
theorem cmp_any (x y : Int × Int) (W : World) : Calls Tryz.prog 134 #[.agg (encP x).toArray, .agg (encP y).toArray] W fun e w' => e = .returned (.int .i64 (Lib.compareInt x.1 y.1)) /\ ∃ q os', w' = Sort.grow (W.drewN q) os' := by
 have hcon := fun W' => AnyG.cmp_Compare_int Tryz.cmpI x.1 y.1 W'
 change ∀ W', Calls Tryz.prog 135 _ _ _ at hcon
 generalize Lib.compareInt x.1 y.1 = r at hcon ⊢
 unfold encP
 go_enter Tryz.func134, Tryz.ntmps134
 go_wp2_with (go_at_call 135; refine (hcon _).mono ?_; rintro e w' ⟨rfl, rfl⟩)
 go_ret
 exact ⟨rfl, 0, _, by rw [Sort.alloc_eq_grow, Sort.alloc_eq_grow, Sort.grow_grow]; rfl⟩
theorem ltLo (x y : Int × Int) : ltOf (fun x y : Int × Int => Lib.compareInt x.1 y.1) x y = decide (x.1 < y.1) := by
 unfold ltOf Lib.compareInt
 by_cases h1 : x.1 < y.1
 ·simp [h1]
 ·by_cases h2 : y.1 < x.1 <;> simp [h1, h2]
theorem swoLo : Sort.SWO (ltOf fun x y : Int × Int => Lib.compareInt x.1 y.1) where
 irrefl x := by rw [ltLo]; simp
 trans x y z h1 h2 := by rw [ltLo] at *; simp at *; omega
 ntrans x y z h1 h2 := by rw [ltLo] at *; simp at *; omega
theorem flatK_is (l : List (Int × Int)) : (Sort.flatK encP 2 l.toArray).toList = flatP l := by
 apply List.ext_getElem?
 intro j
 by_cases hj : j < l.length * 2
 ·have h1 : j < (Sort.flatK encP 2 l.toArray).size := by simpa using hj
  have h3 := Sort.get_flatK encP 2 l.toArray j (by simpa using hj)
  rw [getElem!_pos _ j h1] at h3
  rw [Array.getElem?_toList, Array.getElem?_eq_getElem h1, h3]
  have hat := flatP_at l (j / 2) (by omega)
  have e : l.toArray[j / 2]! = l.getD (j / 2) (0, 0) := by
   have h4 : j / 2 < l.length := by omega
   rw [getElem!_pos _ _ (by simpa using h4)]
   simp [List.getD, List.getElem?_eq_getElem h4]
  rw [e]
  rcases Nat.mod_two_eq_zero_or_one j with hm | hm
  ·have ej : j / 2 * 2 = j := by omega
   rw [ej] at hat
   rw [hat.1, hm]; rfl
  ·have ej : j / 2 * 2 + 1 = j := by omega
   rw [ej] at hat
   rw [hat.2, hm]; rfl
 ·rw [List.getElem?_eq_none (by simpa using hj), List.getElem?_eq_none (by rw [flatP_len]; omega)]
theorem heap_sortedK {w : World} {g n : Nat} {cur : Array Value} {e : TypeId} {os : Array Obj} (F : Array Value) (hb : w.heap[g]? = some (.cells cur e (0, 0))) :
  (Sort.grow (Sort.putRow id (Sort.ahead w n) g 0 F) os).heap[g]? = some (.cells (Sort.putCells id 0 F cur) e (0, 0)) := by
  have hlt := (Array.getElem?_eq_some_iff.1 hb).1
  unfold Sort.grow
  simp only
  rw [Array.getElem?_append_left (by simpa [Sort.putRow, Sort.mapBlock, Sort.ahead] using hlt)]
  simp only [Sort.putRow, Sort.mapBlock, Sort.ahead, Array.getElem?_modify]
  simp [hb, Sort.onCells]
theorem take_putCellsK (cur F : Array Value) (h : F.size <= cur.size) : (Sort.putCells id 0 F cur).toList.take F.size = F.toList := by
 apply List.ext_getElem?
 intro j
 by_cases hj : j < F.size
 ·rw [List.getElem?_take_of_lt hj, Array.getElem?_toList, Array.getElem?_toList]
  unfold Sort.putCells
  have h1 : j < cur.size := by omega
  rw [Array.getElem?_mapIdx, Array.getElem?_eq_getElem h1, Array.getElem?_eq_getElem hj]
  simp only [Option.map_some, id]
  rw [if_pos ⟨Nat.zero_le _, by omega⟩, Nat.sub_zero, getElem!_pos F j hj]
 ·rw [List.getElem?_take_eq_none (by omega), List.getElem?_eq_none (by simpa using hj)]
theorem sort_any {w : World} {B n : Nat} {v : Value} {l : List (Int × Int)} (h : OwnP w B v n l) (hn : n <= 1000000000) (hB : B <= w.heap.size) :
  Calls Tryz.prog 133 #[v, .func (.func 134) #[] #[]] w fun e w' =>
   e = .returned (.tuple #[]) /\ ∃ l', l'.Perm l /\ (l'.Pairwise fun x y => x.1 <= y.1) /\ OwnP w' B v n l' /\ Below B w w' := by
  have hl := h.len
  rcases h.2 with ⟨rfl, rfl⟩ | ⟨g, cap, cur, rfl, hg, hh, hnc, hcm, hcs, ht⟩
  ·have hcon := AnyF.slices_SortFunc_none Tryz.sortR none 0 (.func (.func 134) #[] #[]) w
   change Calls Tryz.prog 133 _ _ _ at hcon
   refine hcon.mono ?_
   rintro e w' ⟨rfl, rfl⟩
   obtain rfl : l = [] := List.eq_nil_of_length_eq_zero hl
   exact ⟨rfl, [], List.Perm.refl _, List.Pairwise.nil, OwnP.nil _ _, Below.refl _ _⟩
  ·have hlt := (Array.getElem?_eq_some_iff.1 hh).1
   have hsz : l.toArray.size = n := by simpa using hl
   have hH : Sort.HoldsK encP 2 w g 0 l.toArray := by
    intro j hj
    have hj' : j < n * 2 := by simpa [hl] using hj
    have e1 : (Sort.flatK encP 2 l.toArray)[j]! = (flatP l)[j]'(by rw [flatP_len]; omega) := by
     rw [getElem!_pos _ j hj]
     have := congrArg (fun t => t[j]?) (flatK_is l)
     simp only [Array.getElem?_toList] at this
     rw [Array.getElem?_eq_getElem hj, List.getElem?_eq_getElem (by rw [flatP_len]; omega)] at this
     exact Option.some.inj this
    refine ⟨?_, ?_⟩
    ·rw [Nat.zero_add, World.ownsRow.cellAt h j hj', e1, List.getElem?_eq_getElem (by rw [flatP_len]; omega)]
     rfl
    ·rw [Nat.zero_add]; exact World.ownsRow.frozenAt h j
   have eg : ∀ args w, (callFunc 134 args).run Tryz.prog w = .ok (.enter 134 args) w := enters_of Tryz.func134 (by kernel_rfl) rfl
   have hcon := AnyQ.slices_SortFunc Tryz.sortR 2 Tryz.isAgg131 Tryz.sizeOf131 encP (fun _ => rfl) (fun x v hv => by simp [encP] at hv; rcases hv with rfl | rfl <;> rfl) (fun x y => Lib.compareInt x.1 y.1) swoLo 134 #[] g 0 cap l.toArray w eg (fun _ _ _ _ x y => cmp_any x y _) hH hlt (by rw [hsz]; omega)
   change Calls Tryz.prog 133 _ _ _ at hcon
   rw [hsz] at hcon
   refine hcon.mono ?_
   rintro e w' ⟨rfl, d', q, os, hp, hs, rfl⟩
   have hp1 : d'.size = n := by rw [hp.1, hsz]
   have hd : d'.toList.toArray = d' := by simp
   refine ⟨rfl, d'.toList, ?_, ?_, ?_, ?_⟩
   ·have := hp.2.2
    rw [Array.extract_eq_self_of_le (by omega), Array.extract_eq_self_of_le (by omega)] at this
    simpa using this
   ·rw [List.pairwise_iff_getElem]
    intro i j hi hj hij
    have hi' : i < d'.size := by simpa using hi
    have hj' : j < d'.size := by simpa using hj
    have := hs i j (Nat.zero_le _) hij (by omega)
    rw [ltLo, getElem!_pos d' j hj', getElem!_pos d' i hi'] at this
    simp only [Array.getElem_toList]
    simpa using this
   ·have hF : (Sort.flatK encP 2 d').size = n * 2 := by simp [hp1]
    refine ⟨by rw [flatP_len]; simp [hp1], .inr ⟨g, cap, _, rfl, hg, heap_sortedK _ hh, hnc, hcm, by simp [Sort.putCells, hcs], ?_⟩⟩
    have := take_putCellsK cur (Sort.flatK encP 2 d') (by rw [hF, hcs]; omega)
    rw [hF] at this
    rw [this]
    have := flatK_is d'.toList
    rw [hd] at this
    exact this
   ·refine ⟨rfl, rfl, rfl, ?_, fun i hi => ?_⟩
    ·simp [sortWorldK, Sort.grow, Sort.putRowK, Sort.putRow, Sort.mapBlock, Sort.ahead]
    ·have hi2 : i < w.heap.size := by omega
     unfold sortWorldK Sort.grow
     simp only
     rw [Array.getElem?_append_left (by simpa [Sort.putRowK, Sort.putRow, Sort.mapBlock, Sort.ahead] using hi2)]
     simp only [Sort.putRowK, Sort.putRow, Sort.mapBlock, Sort.ahead, Array.getElem?_modify]
     rw [if_neg (by omega)]
end Go.Proofs.YtfccnadbiglagaaGreat
