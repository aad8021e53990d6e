/- Contracts of set.Right at right rows and at any, and of set.Has. Contract of set.Has. -/
import Derived.Test.YtfccnadbiglagaaGreatVSetD
import Derived.Test.YtfccnadbiglagaaGreatVSetE
import Derived.Test.YtfccnadbiglagaaGreatVShelfB
import Derived.BigRegion
set_option linter.unusedVariables false
set_option linter.unusedSimpArgs false
set_option maxHeartbeats 4000000
namespace Go.Proofs.YtfccnadbiglagaaGreat
open Go Go.RowKit
def Says (w : World) (b : Bool) (e : Ending) (w' : World) : Prop := e = .returned (.bool b) /\ Below w.heap.size w w'
end Go.Proofs.YtfccnadbiglagaaGreat
namespace Go.Proofs.YtfccnadbiglagaaGreat
open Go Go.RowKit
def hasB (l : List (Int × Int)) (x : Int) : Bool := decide (inS l x)
theorem has_at (l : List (Int × Int)) (x : Int) : ∀ lo, RtFrom lo l -> ∃ c : Nat, c <= l.length /\ (∀ t, t < c -> (l.getD t (0, 0)).2 < x) /\ (∀ t, c <= t -> t < l.length -> x <= (l.getD t (0, 0)).2) /\
  (inS l x ↔ c < l.length /\ (l.getD c (0, 0)).1 <= x) := by
  induction l with
  | nil => intro lo _; exact ⟨0, Nat.le_refl _, fun t h => absurd h (Nat.not_lt_zero t), fun t _ h => absurd h (Nat.not_lt_zero t), ⟨fun h => absurd h (inS_nil x), fun h => absurd h.1 (Nat.lt_irrefl 0)⟩⟩
  | cons r l ih =>
    intro lo h
    obtain ⟨h1, h2, h3, h4⟩ := h
    obtain ⟨c, p1, p2, p3, p4⟩ := ih _ h4
    by_cases hx : x <= r.2
    ·refine ⟨0, Nat.zero_le _, fun t h => absurd h (Nat.not_lt_zero t), fun t _ ht => ?_, ?_⟩
     ·cases t with
      | zero => exact hx
      | succ t =>
        simp only [List.length_cons] at ht
        have hm := RtFrom.mem h4 (l[t]'(by omega)) (List.getElem_mem _)
        have e : (r :: l).getD (t + 1) (0, 0) = l[t]'(by omega) := by simp [List.getD, List.getElem?_eq_getElem (show t < l.length by omega)]
        rw [e]; omega
     ·rw [inS_cons]
      simp only [List.length_cons, List.getD_cons_zero]
      constructor
      ·rintro (g | g)
       ·exact ⟨by omega, g.1⟩
       ·have := h4.num g; omega
      ·rintro ⟨_, g⟩; exact .inl ⟨g, hx⟩
    ·refine ⟨c + 1, by simp only [List.length_cons]; omega, fun t ht => ?_, fun t ht htl => ?_, ?_⟩
     ·cases t with
      | zero => simp only [List.getD_cons_zero]; omega
      | succ t => simp only [List.getD_cons_succ]; exact p2 t (by omega)
     ·cases t with
      | zero => omega
      | succ t => simp only [List.getD_cons_succ]; exact p3 t (by omega) (by simpa using htl)
     ·rw [inS_cons, p4]
      simp only [List.length_cons, List.getD_cons_succ]
      constructor
      ·rintro (g | g)
       ·omega
       ·exact ⟨by omega, g.2⟩
      ·rintro ⟨g, g2⟩; exact .inr ⟨by omega, g2⟩
theorem hascl_any {W : World} {bn bl n i : Nat} {a : Option Addr} {cap : Nat} {x : Int} {l : List (Int × Int)} (hi : i < n) (h : ReadsP W (.slice a n cap) n l)
  (h1 : W.cell? ⟨bn, 0, none⟩ = some (.int .i64 x)) (h2 : W.cell? ⟨bl, 0, none⟩ = some (.slice a n cap)) :
  Calls Tryz.prog 142 #[.int .i64 i, .pointer (some ⟨bn, 0, none⟩), .pointer (some ⟨bl, 0, none⟩)] W fun e w' => e = .returned (.bool (decide (x <= (l.getD i (0, 0)).2))) /\ ∃ q os', w' = Sort.grow (W.drewN q) os' := by
  obtain ⟨b, off, rfl, hb, c1, c2⟩ := h.at i hi
  clear h
  have i0 : (0 : Int) <= (i : Int) := Int.natCast_nonneg _
  have i1 : (i : Int) < (n : Int) := by omega
  generalize (l.getD i (0, 0)).2 = y at *
  go_enter Tryz.func142, Tryz.ntmps142
  go_wp2_with fail
  go_quiet (fail)
  go_wp2_with fail
  go_ret
  exact ⟨rfl, _, #[], by rw [Sort.grow_empty]⟩
theorem has_any {w : World} {v : Value} {n : Nat} {l : List (Int × Int)} {x : Int} (h : ReadsP w v n l) (hr : Rt l) :
  Calls Tryz.prog 124 #[v, .int .i64 x] w (Says w (hasB l x)) := by
  have h0 := h
  obtain ⟨a, cap, rfl, hc, hm, hl⟩ := h.form
  have hn : n <= 557056 := by rw [<- hl]; exact hr.short
  obtain ⟨c, p1, p2, p3, p4⟩ := has_at l x 0 hr
  rw [hl] at p1 p3 p4
  obtain ⟨W0, hW0⟩ : ∃ W0, W0 = (w.alloc (.cells #[.slice a n cap] 94)).alloc (.cells #[.int .i64 x] 3) := ⟨_, rfl⟩
  have hsz : W0.heap.size = w.heap.size + 1 + 1 := by rw [hW0]; simp
  have k1 : W0.cell? ⟨w.heap.size, 0, none⟩ = some (.slice a n cap) := by rw [hW0]; exact cell_alloc_sl _ (cell_new_sl w _ _)
  have k2 : W0.cell? ⟨w.heap.size + 1, 0, none⟩ = some (.int .i64 x) := by rw [hW0]; have := cell_new_sl (w.alloc (.cells #[.slice a n cap] 94)) (.int .i64 x) 3; rwa [World.size_alloc] at this
  have k3 : ReadsP W0 (.slice a n cap) n l := by rw [hW0]; exact (h0.alloc _).alloc _
  have kb : Below w.heap.size w W0 := by rw [hW0]; exact ((Below.refl _ w).alloc (Nat.le_refl _) _).alloc (by simp) _
  have eg : ∀ args w, (callFunc 142 args).run Tryz.prog w = .ok (.enter 142 args) w := enters_of Tryz.func142 (by kernel_rfl) rfl
  have hkeep : ∀ (m : Nat) (os : Array Obj) (b o : Nat) (y : Value), W0.cell? ⟨b, o, none⟩ = some y -> (Sort.grow (W0.drewN m) os).cell? ⟨b, o, none⟩ = some y := fun m os b o y hy => cell_grown (World.block_lt_of_cell? _ _ hy) hy m os
  have hS := Any.sort_Search Tryz.searchR 142 #[.pointer (some ⟨w.heap.size + 1, 0, none⟩), .pointer (some ⟨w.heap.size, 0, none⟩)] n (fun i => decide (x <= (l.getD i (0, 0)).2)) W0 eg (by omega)
   (fun m os i hi => hascl_any hi (k3.same (hkeep m os)) (hkeep m os _ _ _ k2) (hkeep m os _ _ _ k1))
   (fun p q hpq hq hp => by
    have hp' : x <= (l.getD p (0, 0)).2 := by simpa using hp
    have : ¬ p < c := fun e => by have := p2 p e; omega
    have := p3 q (by omega) hq
    simpa using this)
  have ec : (List.range n).countP (fun i => !decide (x <= (l.getD i (0, 0)).2)) = c := by
   have hrg : ∀ t, t < n -> (List.range n)[t]! = t := fun t ht => by rw [getElem!_pos _ t (by simpa using ht)]; simp
   refine Lib.countP_boundary _ (List.range n) c (by simpa using p1) (fun t ht => ?_) (fun t h3 h4 => ?_)
   ·rw [hrg t (by omega)]; have := p2 t ht; rw [decide_eq_false (by omega)]; rfl
   ·rw [hrg t (by simpa using h4)]; have := p3 t h3 (by simpa using h4); rw [decide_eq_true this]; rfl
  rw [ec] at hS
  change Calls Tryz.prog 98 _ _ _ at hS
  have HS := Lib.hid hS; have P4 := Lib.hid p4; have H0 := Lib.hid h0; have KB := Lib.hid kb
  clear hS p2 p3 p4 h0 kb eg hkeep k3 ec hl hr h
  have HW0 := Lib.hid hW0
  have i0 : (0 : Int) <= (c : Int) := Int.natCast_nonneg _
  by_cases hcn : c < n
  ·obtain ⟨b, off, rfl, hbl, c1, c2⟩ := H0.out.at c hcn
   have t1 : decide (c < n) = true := by simpa using hcn
   have i1 : (c : Int) < (n : Int) := by omega
   have E := Lib.hid (show hasB l x = decide ((l.getD c (0, 0)).1 <= x) by unfold hasB; rw [decide_eq_decide, P4.out]; exact ⟨fun g => g.2, fun g => ⟨hcn, g⟩⟩)
   generalize (l.getD c (0, 0)).1 = y at *
   clear hW0
   go_enter Tryz.func124, Tryz.ntmps124
   go_wp2_with (go_at_call 98; rw [<- HW0.out]; refine HS.out.mono ?_; rintro e w' ⟨rfl, q, os, rfl⟩
                have c1' := cell_grown (World.block_lt_of_cell? _ _ (KB.out.cell (p := ⟨b, off + c * 2, none⟩) hbl ▸ c1 : W0.cell? _ = _)) ((KB.out.cell (p := ⟨b, off + c * 2, none⟩) hbl).trans c1) q os
                have k1' := cell_grown (World.block_lt_of_cell? _ _ k1) k1 q os
                have k2' := cell_grown (World.block_lt_of_cell? _ _ k2) k2 q os
                have KB' := Lib.hid (KB.out.trans (below_grown_sl w.heap.size W0 q os (by omega)))
                clear k1 k2 c1 c2)
   go_quiet (fail)
   go_wp2_with fail
   go_ret
   exact ⟨by rw [E.out]; rfl, KB'.out.drewN' _⟩
  ·have t1 : decide (c < n) = false := by simpa using hcn
   have E := Lib.hid (show hasB l x = false by unfold hasB; rw [decide_eq_false_iff_not, P4.out]; exact fun g => hcn g.1)
   clear hW0
   go_enter Tryz.func124, Tryz.ntmps124
   go_wp2_with (go_at_call 98; rw [<- HW0.out]; refine HS.out.mono ?_; rintro e w' ⟨rfl, q, os, rfl⟩
                have k1' := cell_grown (World.block_lt_of_cell? _ _ k1) k1 q os
                have k2' := cell_grown (World.block_lt_of_cell? _ _ k2) k2 q os
                have KB' := Lib.hid (KB.out.trans (below_grown_sl w.heap.size W0 q os (by omega)))
                clear k1 k2)
   go_quiet (fail)
   go_wp2_with fail
   go_ret
   exact ⟨by rw [E.out]; rfl, KB'.out.drewN' _⟩
end Go.Proofs.YtfccnadbiglagaaGreat
