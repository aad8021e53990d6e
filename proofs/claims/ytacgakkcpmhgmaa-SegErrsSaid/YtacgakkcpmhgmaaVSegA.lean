/- Contracts of sort.Search at sought.isBehind, of part.Letter: of a table's cuts and letters. slices.Backward over numbers: what it hands back, walked. -/
import Derived.Test.YtacgakkcpmhgmaaVTableP
import Derived.Test.YtacgakkcpmhgmaaVTableH
import Derived.Deep.LoopGhost
import Derived.Deep.QuietTactic
import Derived.Shelf.SlSorted.Search
import Derived.RangeFuncNested
import Derived.RangeFuncBound
import Derived.RangeFuncCalls
import Derived.RangeFuncLeaves
import Derived.Shelf.Abstract
import Derived.Shelf.RegionOpen
import Derived.WalkKit
import Derived.OwnWalkIn
import Derived.TacticsInMore
import Derived.LoopNIn
import Derived.LoopIn
set_option linter.unusedVariables false
set_option linter.unusedSimpArgs false
set_option maxRecDepth 1000000
set_option maxHeartbeats 4000000
namespace Go.Proofs.Ytacgakkcpmhgmaa
open Go Go.RowKit Go.Sort
theorem alloc_drewN (W : World) (o : Obj) (q : Nat) : (W.alloc o).drewN q = Sort.grow (W.drewN q) #[o] := by rw [alloc_eq_grow]; rfl
theorem behind_any {W : World} {m i : Nat} {a : Option Addr} {cap : Nat} {x : Int} {c : List Int} (hi : i < m) (h : ReadsI W (.slice a m cap) m c) :
  Calls Try.prog 87 #[.agg #[.slice a m cap, .int .i64 x], .int .i64 i] W fun e w' => e = .returned (.bool (decide (x < c.getD i 0))) /\ ∃ q os', w' = Sort.grow (W.drewN q) os' := by
  obtain ⟨b, off, rfl, hb, c1⟩ := h.at i hi
  clear h
  have i0 : (0 : Int) <= (i : Int) := Int.natCast_nonneg _
  have i1 : (i : Int) < (m : Int) := by omega
  generalize c.getD i 0 = y at *
  go_enter Try.func87, Try.ntmps87
  go_wp2_with fail
  go_quiet (fail)
  go_wp2_with fail
  go_ret
  exact ⟨rfl, _, _, alloc_drewN _ _ _⟩
theorem search_any {w : World} {m cap k : Nat} {a : Option Addr} {x : Int} {c : List Int} (h : ReadsI w (.slice a m cap) m c) (hm : m <= 1000000000) (hkm : k <= m) (h1 : ∀ t, t < k -> c.getD t 0 <= x) (h2 : ∀ t, k <= t -> t < m -> x < c.getD t 0) :
  Calls Try.prog 86 #[.int .i64 m, .func (.func 87) #[.agg #[.slice a m cap, .int .i64 x]] #[]] w fun e w' => e = .returned (.int .i64 (k : Nat)) /\ ∃ q os, w' = Sort.grow (w.drewN q) os := by
  have HF : Hid (∀ (q : Nat) (os : Array Obj) (i : Nat), i < m -> Calls Try.prog 87 #[.agg #[.slice a m cap, .int .i64 x], .int .i64 i] (Sort.grow (w.drewN q) os) fun e w' => e = .returned (.bool (decide (x < c.getD i 0))) /\ ∃ q' os', w' = Sort.grow ((Sort.grow (w.drewN q) os).drewN q') os') :=
   Lib.hid fun q os i hi => behind_any hi (h.same fun b o y hy => cell_grown (World.block_lt_of_cell? _ _ hy) hy q os)
  have H1 := Lib.hid h1; have H2 := Lib.hid h2
  clear h1 h2 h
  go_enter Try.func86, Try.ntmps86
  go_wp2
  go_loopg [5, 6] m (fun kx s5 s6 wr => ∃ (lo hi q : Nat) (os : Array Obj), s5 = .int .i64 lo /\ s6 = .int .i64 hi /\ lo <= k /\ k <= hi /\ hi <= m /\ hi - lo <= kx /\ wr = Sort.grow (w.drewN q) os)
  case atStart => exact ⟨0, m, 0, #[], rfl, rfl, Nat.zero_le _, hkm, Nat.le_refl _, by omega, by rw [grow_empty]; rfl⟩
  case round =>
   obtain ⟨lo, hi, q, os, rfl, rfl, hlk, hkh, hin, hg, rfl⟩ := hrel
   by_cases hlt : lo < hi
   ·have hc := HF.out q os ((lo + hi) / 2) (by omega)
    rw [show (((lo + hi) / 2 : Nat) : Int) = ((lo : Int) + (hi : Int)) / 2 by omega] at hc
    by_cases hp : (lo + hi) / 2 < k
    ·have e : decide (x < c.getD ((lo + hi) / 2) 0) = false := by have := H1.out _ hp; simp only [decide_eq_false_iff_not]; omega
     rw [e] at hc; clear e
     go_wp2_with (go_at_call 87; refine hc.mono ?_; rintro e w' ⟨rfl, nq, osq, rfl⟩)
     go_roundg (hi - ((lo + hi) / 2 + 1))
     case measure => omega
     case rel => exact ⟨(lo + hi) / 2 + 1, hi, q + nq, os ++ osq, by rw [show ((lo : Int) + (hi : Int)) / 2 + 1 = (((lo + hi) / 2 + 1 : Nat) : Int) by omega], rfl, by omega, hkh, hin, Nat.le_refl _, by show Sort.grow (Sort.grow ((w.drewN q).drewN nq) os) osq = _; rw [grow_grow, World.drewN_drewN]⟩
    ·have e : decide (x < c.getD ((lo + hi) / 2) 0) = true := by have := H2.out ((lo + hi) / 2) (by omega) (by omega); simp only [decide_eq_true_eq]; omega
     rw [e] at hc; clear e
     go_wp2_with (go_at_call 87; refine hc.mono ?_; rintro e w' ⟨rfl, nq, osq, rfl⟩)
     go_roundg ((lo + hi) / 2 - lo)
     case measure => omega
     case rel => exact ⟨lo, (lo + hi) / 2, q + nq, os ++ osq, rfl, by rw [show ((lo : Int) + (hi : Int)) / 2 = (((lo + hi) / 2 : Nat) : Int) by omega], hlk, by omega, by omega, Nat.le_refl _, by show Sort.grow (Sort.grow ((w.drewN q).drewN nq) os) osq = _; rw [grow_grow, World.drewN_drewN]⟩
   ·obtain rfl : hi = lo := by omega
    obtain rfl : k = hi := by omega
    go_wp2
    go_ret
    exact ⟨rfl, q, os, rfl⟩
def SaysI (w : World) (x : Int) (e : Ending) (w' : World) : Prop := e = .returned (.int .i64 x) /\ Below w.heap.size w w'
theorem slet_any {w : World} {v u : Value} {m k : Nat} {c l : List Int} {x : Int} (h : ReadsI w v m c) (h' : ReadsI w u m l) (hm : m <= 1000000000) (hx : x <= 1114111) (hkm : k < m) (h1 : ∀ t, t < k + 1 -> c.getD t 0 <= x) (h2 : ∀ t, k + 1 <= t -> t < m -> x < c.getD t 0) :
  Calls Try.prog 79 #[v, u, .int .i64 x] w (SaysI w (l.getD k 0)) := by
  obtain ⟨a, cap, rfl, -, -, -⟩ := h.form
  obtain ⟨a', cap', rfl, -, -, -⟩ := h'.form
  have HS := Lib.hid (search_any h hm (show k + 1 <= m by omega) h1 h2)
  obtain ⟨b, off, rfl, hb, c1⟩ := h'.at k hkm
  have c1' : ∀ (q : Nat) (os : Array Obj), (Sort.grow (w.drewN q) os).cell? ⟨b, off + k, none⟩ = some (.int .i64 (l.getD k 0)) := fun q os => cell_grown hb c1 q os
  have C1 := Lib.hid c1'; clear c1 c1' h h' h1 h2
  generalize l.getD k 0 = y at *
  have i0 : (0 : Int) <= (k : Int) := Int.natCast_nonneg _
  have i1 : (k : Int) < (m : Int) := by omega
  have t1 : decide (k < m) = true := by simpa using hkm
  go_enter Try.func79, Try.ntmps79
  go_wp2_with fail
  refine HS.out.mono ?_
  rintro e w' ⟨rfl, q, os, rfl⟩
  have c2 := C1.out q os
  have HB := Lib.hid (below_grown_sl w.heap.size w q os (Nat.le_refl _))
  generalize Sort.grow (w.drewN q) os = W at *
  go_wp2_with fail
  go_ret
  exact ⟨rfl, HB.out⟩
theorem letter_tab {w : World} {v u : Value} {T : Tab} {x : Int} (h : ReadsI w v T.cuts.length T.cuts) (h' : ReadsI w u T.letters.length T.letters) (hT : RightT T) (hx0 : 0 <= x) (hx : x <= 1114111) :
  Calls Try.prog 79 #[v, u, .int .i64 x] w (SaysI w (lettI T x)) := by
  obtain ⟨h1, h2⟩ := cutsTo_pos hT hx0
  obtain ⟨s1, s2, s3⟩ := cutsTo_spec T.cuts x hT.rise
  have hl := hT.lets
  rw [hl] at h'
  exact slet_any (k := cutsTo T.cuts x - 1) h h' (by have := hT.len.2; omega) hx (by omega) (fun t ht => s2 t (by omega)) (fun t ht htm => s3 t (by omega) htm)
end Go.Proofs.Ytacgakkcpmhgmaa
namespace Go.Proofs.Ytacgakkcpmhgmaa
open Go Go.RowKit Go.Proofs Go.Shelf
attribute [local go_sem] Oper.semAt_some
theorem cell_of_heapZ {w w' : World} {g : Nat} (h : w'.heap[g]? = w.heap[g]?) (i : Nat) : w'.cell? ⟨g, i, none⟩ = w.cell? ⟨g, i, none⟩ := by
 unfold World.cell?
 simp only [h]
def KeepTwoZ (b Bs : Nat) (W W' : World) : Prop := W'.heap[b]? = W.heap[b]? /\ W'.heap[Bs]? = W.heap[Bs]?
def backsZ (len k : Nat) : List (Fin len) := (List.finRange len).reverse.take k
theorem backs_succZ (len k : Nat) (h : k < len) : backsZ len (k + 1) = backsZ len k ++ [⟨len - 1 - k, by omega⟩] := by
 have hk : k < (List.finRange len).reverse.length := by simpa using h
 unfold backsZ
 rw [List.take_add_one, List.getElem?_eq_getElem hk]
 congr 1
 simp
theorem backs_lengthZ (len k : Nat) (h : k <= len) : (backsZ len k).length = k := by simp [backsZ]; omega
theorem back1_inZ (F : Fence) (n : Nat) (h8 : F.fn 88) (hro : F.round = none) (hn : 1 <= n) (l Bs b len cap : Nat) (a : Option Addr) (f : Nat -> Int) (hlen9 : len <= 1000000) (J Jx : List (Fin len) -> World -> Prop)
  (hY : ∀ pre x W, J pre W -> pre.length < len -> YieldAt F (n - 1) Try.prog l #[.int .i64 (x.1 : Int), .int .i64 (f x.1)] W fun e W' =>
   (e = .returned (.bool true) /\ J (pre ++ [x]) W' /\ KeepTwoZ b Bs W W') \/ (e = .returned (.bool false) /\ Jx (pre ++ [x]) W'))
  (W : World) (hBs : W.cell? ⟨Bs, 0, none⟩ = some (.slice a len cap)) (hc : ∀ j, j < len -> ∃ off, a = some ⟨b, off, none⟩ /\ W.cell? ⟨b, off + j, none⟩ = some (.int .i64 (f j))) (h0 : J [] W) :
  CallsIn F n Try.prog 88 #[.func (.yield l) #[] #[], .pointer (some ⟨Bs, 0, none⟩)] W fun e W' => (∃ v, e = .returned v) /\
   ((∃ ys, ys = backsZ len len /\ J ys W') \/ (∃ pre, (∃ k, k <= len /\ pre = backsZ len k) /\ Jx pre W')) := by
  refine callsIn_of_wp Try.func88 rfl h8 ?_ hro
  simp only [Try.ntmps88, List.size_toArray, List.length_cons, List.length_nil, Nat.reduceAdd, Nat.reduceSub, Array.replicate_succ, Array.replicate_zero, List.push_toArray, List.append_toArray, List.nil_append, List.cons_append]
  gi_wp2
  gi_loopw [3] (fun i wr => ∃ k : Nat, k <= len /\ i = .int .i64 ((len : Int) - 1 - k) /\ J (backsZ len k) wr /\ KeepTwoZ b Bs W wr)
   (fun i _ => (intOf i + 1).toNat)
  case atStart => exact ⟨0, Nat.zero_le _, by simp, h0, rfl, rfl⟩
  case round =>
   obtain ⟨k, hk, rfl, hJs, hnx⟩ := hrel
   have hcb : wr.cell? ⟨Bs, 0, none⟩ = some (.slice a len cap) := by rw [cell_of_heapZ hnx.2]; exact hBs
   by_cases hlt : k < len
   ·obtain ⟨m, hm⟩ : ∃ m : Nat, m = len - 1 - k := ⟨_, rfl⟩
    have hmI : (len : Int) - 1 - k = (m : Int) := by omega
    have hml : m < len := by omega
    obtain ⟨off, ea, e0⟩ := hc m hml
    subst ea
    rw [<- cell_of_heapZ hnx.1] at e0
    have i0 : (0 : Int) <= (m : Int) := Int.natCast_nonneg _
    have i1 : (m : Int) < (len : Int) := by omega
    rw [hmI]
    have HMI := Lib.hid hmI; have HM := Lib.hid hm; clear hm hmI
    obtain ⟨fn, tmps, assign, body, hy, hR⟩ := hY _ ⟨m, hml⟩ wr hJs (by rw [backs_lengthZ _ _ hk]; exact hlt)
    dsimp only at hy
    gi_wp2
    refine hR.mono ?_
    rintro e W3 (⟨rfl, hJ3, hk3⟩ | ⟨rfl, hJx3⟩)
    ·gi_wp2
     go_roundw
     case rel => exact ⟨k + 1, by omega, by have := HMI.out; congr 1; omega, by rw [backs_succZ _ _ hlt]; have e : (⟨len - 1 - k, by omega⟩ : Fin len) = ⟨m, hml⟩ := Fin.ext HM.out.symm; rw [e]; exact hJ3, hk3.1.trans hnx.1, hk3.2.trans hnx.2⟩
     case measure => simp [intOf]
    ·gi_wp2
     refine bodyPost_ret (results_none rfl _ _ _) rfl ?_
     exact ⟨⟨_, rfl⟩, .inr ⟨_, ⟨k + 1, by omega, by rw [backs_succZ _ _ hlt]; congr 2; exact Fin.ext HM.out⟩, hJx3⟩⟩
   ·obtain rfl : k = len := by omega
    gi_wp2
    go_end0
    exact ⟨⟨_, rfl⟩, .inl ⟨_, rfl, hJs⟩⟩
theorem backward_inZ (F : Fence) (n : Nat) (h5 : F.fn 83) (hro : F.round = none) (a : Option Addr) (len cap : Nat) (w : World) :
  CallsIn F n Try.prog 83 #[.slice a len cap] w fun e w' => e = .returned (.func (.func 88) #[] #[.pointer (some ⟨w.heap.size, 0, none⟩)]) /\ w' = w.alloc (.cells #[.slice a len cap] 22) := by
  refine callsIn_of_wp Try.func83 rfl h5 ?_ hro
  simp only [Try.ntmps83, List.size_toArray, List.length_cons, List.length_nil, Nat.reduceAdd, Nat.reduceSub, Array.replicate_succ, Array.replicate_zero, List.push_toArray, List.append_toArray, List.nil_append, List.cons_append]
  gi_wp2
  go_ret
  exact ⟨rfl, rfl⟩
theorem back_stopsZ (F : Fence) (n : Nat) (h7 : F.fn 88) (hro : F.round = none) (hn : 1 <= n) (Bs b len cap : Nat) (a : Option Addr) (f : Nat -> Int) (hlen9 : len <= 1000000) (w : World) (hBs : w.cell? ⟨Bs, 0, none⟩ = some (.slice a len cap))
  (hc : ∀ j, j < len -> ∃ off, a = some ⟨b, off, none⟩ /\ w.cell? ⟨b, off + j, none⟩ = some (.int .i64 (f j))) :
  SeqStopsK F n Try.prog 88 #[.pointer (some ⟨Bs, 0, none⟩)] (fun x : Fin len => #[Value.int .i64 (x.1 : Int), .int .i64 (f x.1)]) (KeepTwoZ b Bs) (fun ys => ys = backsZ len len) (fun _ => True) len w := fun l J Jx W hW _ _ hY h0 => by
  refine (back1_inZ F n h7 hro hn l Bs b len cap a f hlen9 J Jx hY W (bel_m hW hBs) (fun j hj => by obtain ⟨off, e, q⟩ := hc j hj; exact ⟨off, e, bel_m hW q⟩) h0).mono ?_
  rintro e W' ⟨he, ⟨ys, rfl, hj⟩ | ⟨pre, _, hj⟩⟩
  ·exact ⟨he, .inl ⟨_, rfl, hj⟩⟩
  ·exact ⟨he, .inr ⟨_, trivial, hj⟩⟩
theorem KeepTwoZ.t {b Bs : Nat} {A B C : World} (h : KeepTwoZ b Bs A B) (k : KeepTwoZ b Bs B C) : KeepTwoZ b Bs A C := ⟨k.1.trans h.1, k.2.trans h.2⟩
end Go.Proofs.Ytacgakkcpmhgmaa
