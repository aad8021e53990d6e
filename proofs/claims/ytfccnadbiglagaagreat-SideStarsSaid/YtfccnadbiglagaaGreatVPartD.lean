/- Contracts of sort.Search at sought.isBehind, of part.Letter and part.Count. part's own Letter, Cuts at some sets. -/
import Derived.Test.YtfccnadbiglagaaGreatVPartF
import Derived.Deep.LoopGhost
import Derived.Shelf.SlSorted.Search
set_option linter.unusedVariables false
set_option linter.unusedSimpArgs false
set_option maxRecDepth 1000000
set_option maxHeartbeats 4000000
namespace Go.Proofs.YtfccnadbiglagaaGreat
open Go Go.RowKit Go.Sort
theorem alloc_drewN (W : World) (o : Obj) (q : Nat) : (W.alloc o).drewN q = Sort.grow (W.drewN q) #[o] := by rw [alloc_eq_grow]; rfl
theorem behind_any {W : World} {m i : Nat} {a : Option Addr} {cap : Nat} {x : Int} {c : List Int} (hi : i < m) (h : ReadsI W (.slice a m cap) m c) :
  Calls Tryz.prog 99 #[.agg #[.slice a m cap, .int .i64 x], .int .i64 i] W fun e w' => e = .returned (.bool (decide (x < c.getD i 0))) /\ ∃ q os', w' = Sort.grow (W.drewN q) os' := by
  obtain ⟨b, off, rfl, hb, c1⟩ := h.at i hi
  clear h
  have i0 : (0 : Int) <= (i : Int) := Int.natCast_nonneg _
  have i1 : (i : Int) < (m : Int) := by omega
  generalize c.getD i 0 = y at *
  go_enter Tryz.func99, Tryz.ntmps99
  go_wp2_with fail
  go_quiet (fail)
  go_wp2_with fail
  go_ret
  exact ⟨rfl, _, _, alloc_drewN _ _ _⟩
theorem search_any {w : World} {m cap k : Nat} {a : Option Addr} {x : Int} {c : List Int} (h : ReadsI w (.slice a m cap) m c) (hm : m <= 1000000000) (hkm : k <= m) (h1 : ∀ t, t < k -> c.getD t 0 <= x) (h2 : ∀ t, k <= t -> t < m -> x < c.getD t 0) :
  Calls Tryz.prog 98 #[.int .i64 m, .func (.func 99) #[.agg #[.slice a m cap, .int .i64 x]] #[]] w fun e w' => e = .returned (.int .i64 (k : Nat)) /\ ∃ q os, w' = Sort.grow (w.drewN q) os := by
  have HF : Hid (∀ (q : Nat) (os : Array Obj) (i : Nat), i < m -> Calls Tryz.prog 99 #[.agg #[.slice a m cap, .int .i64 x], .int .i64 i] (Sort.grow (w.drewN q) os) fun e w' => e = .returned (.bool (decide (x < c.getD i 0))) /\ ∃ q' os', w' = Sort.grow ((Sort.grow (w.drewN q) os).drewN q') os') :=
   Lib.hid fun q os i hi => behind_any hi (h.same fun b o y hy => cell_grown (World.block_lt_of_cell? _ _ hy) hy q os)
  have H1 := Lib.hid h1; have H2 := Lib.hid h2
  clear h1 h2 h
  go_enter Tryz.func98, Tryz.ntmps98
  go_wp2
  go_loopg [5, 6] m (fun kx s5 s6 wr => ∃ (lo hi q : Nat) (os : Array Obj), s5 = .int .i64 lo /\ s6 = .int .i64 hi /\ lo <= k /\ k <= hi /\ hi <= m /\ hi - lo <= kx /\ wr = Sort.grow (w.drewN q) os)
  case atStart => exact ⟨0, m, 0, #[], rfl, rfl, Nat.zero_le _, hkm, Nat.le_refl _, by omega, by rw [grow_empty]; rfl⟩
  case round =>
   obtain ⟨lo, hi, q, os, rfl, rfl, hlk, hkh, hin, hg, rfl⟩ := hrel
   by_cases hlt : lo < hi
   ·have hc := HF.out q os ((lo + hi) / 2) (by omega)
    rw [show (((lo + hi) / 2 : Nat) : Int) = ((lo : Int) + (hi : Int)) / 2 by omega] at hc
    by_cases hp : (lo + hi) / 2 < k
    ·have e : decide (x < c.getD ((lo + hi) / 2) 0) = false := by have := H1.out _ hp; simp only [decide_eq_false_iff_not]; omega
     rw [e] at hc; clear e
     go_wp2_with (go_at_call 99; refine hc.mono ?_; rintro e w' ⟨rfl, nq, osq, rfl⟩)
     go_roundg (hi - ((lo + hi) / 2 + 1))
     case measure => omega
     case rel => exact ⟨(lo + hi) / 2 + 1, hi, q + nq, os ++ osq, by rw [show ((lo : Int) + (hi : Int)) / 2 + 1 = (((lo + hi) / 2 + 1 : Nat) : Int) by omega], rfl, by omega, hkh, hin, Nat.le_refl _, by show Sort.grow (Sort.grow ((w.drewN q).drewN nq) os) osq = _; rw [grow_grow, World.drewN_drewN]⟩
    ·have e : decide (x < c.getD ((lo + hi) / 2) 0) = true := by have := H2.out ((lo + hi) / 2) (by omega) (by omega); simp only [decide_eq_true_eq]; omega
     rw [e] at hc; clear e
     go_wp2_with (go_at_call 99; refine hc.mono ?_; rintro e w' ⟨rfl, nq, osq, rfl⟩)
     go_roundg ((lo + hi) / 2 - lo)
     case measure => omega
     case rel => exact ⟨lo, (lo + hi) / 2, q + nq, os ++ osq, rfl, by rw [show ((lo : Int) + (hi : Int)) / 2 = (((lo + hi) / 2 : Nat) : Int) by omega], hlk, by omega, by omega, Nat.le_refl _, by show Sort.grow (Sort.grow ((w.drewN q).drewN nq) os) osq = _; rw [grow_grow, World.drewN_drewN]⟩
   ·obtain rfl : hi = lo := by omega
    obtain rfl : k = hi := by omega
    go_wp2
    go_ret
    exact ⟨rfl, q, os, rfl⟩
def SaysI (w : World) (x : Int) (e : Ending) (w' : World) : Prop := e = .returned (.int .i64 x) /\ Below w.heap.size w w'
theorem plet_any {w : World} {v u : Value} {m k : Nat} {c l : List Int} {x : Int} (h : ReadsI w v m c) (h' : ReadsI w u m l) (hm : m <= 1000000000) (hx : x <= 1114111) (hkm : k < m) (h1 : ∀ t, t < k + 1 -> c.getD t 0 <= x) (h2 : ∀ t, k + 1 <= t -> t < m -> x < c.getD t 0) :
  Calls Tryz.prog 61 #[v, u, .int .i64 x] w (SaysI w (l.getD k 0)) := by
  obtain ⟨a, cap, rfl, -, -, -⟩ := h.form
  obtain ⟨a', cap', rfl, -, -, -⟩ := h'.form
  have HS := Lib.hid (search_any h hm (show k + 1 <= m by omega) h1 h2)
  obtain ⟨b, off, rfl, hb, c1⟩ := h'.at k hkm
  have c1' : ∀ (q : Nat) (os : Array Obj), (Sort.grow (w.drewN q) os).cell? ⟨b, off + k, none⟩ = some (.int .i64 (l.getD k 0)) := fun q os => cell_grown hb c1 q os
  have C1 := Lib.hid c1'; clear c1 c1' h h' h1 h2
  generalize l.getD k 0 = y at *
  have i0 : (0 : Int) <= (k : Int) := Int.natCast_nonneg _
  have i1 : (k : Int) < (m : Int) := by omega
  have t1 : decide (k < m) = true := by simpa using hkm
  go_enter Tryz.func61, Tryz.ntmps61
  go_wp2_with fail
  refine HS.out.mono ?_
  rintro e w' ⟨rfl, q, os, rfl⟩
  have c2 := C1.out q os
  have HB := Lib.hid (below_grown_sl w.heap.size w q os (Nat.le_refl _))
  generalize Sort.grow (w.drewN q) os = W at *
  go_wp2_with fail
  go_ret
  exact ⟨rfl, HB.out⟩
theorem pcount_any {w : World} {v : Value} {m : Nat} {ks : List (List Bool)} (h : ReadsI w v m ((lets ks).map fun (i : Nat) => (i : Int))) (hm : m <= 1000000000) :
  Calls Tryz.prog 125 #[v] w (SaysI w ((firsts ks).length : Nat)) := by
  obtain ⟨a, cap, rfl, -, -, hl⟩ := h.form
  have hks : ks.length = m := by simpa [lets] using hl
  have H := Lib.hid h; have HK := Lib.hid hks; clear h hl hks
  go_enter Tryz.func125, Tryz.ntmps125
  go_wp2_with fail
  go_loopw [3, 8] (fun s i wr => ∃ (k n : Nat), k <= m /\ n <= k /\ i = .int .i64 k /\ s = .int .i64 n /\ Hid (n = cnt ks k) /\ wr = w) (fun _ i _ => m - (intOf i).toNat)
  case atStart => exact ⟨0, 0, Nat.zero_le _, Nat.le_refl _, rfl, rfl, Lib.hid rfl, rfl⟩
  case round =>
   obtain ⟨k, n, hk, hnk, rfl, rfl, HN, rfl⟩ := hrel
   have i0 : (0 : Int) <= (k : Int) := Int.natCast_nonneg _
   by_cases hlt : k < m
   ·have i1 : (k : Int) < (m : Int) := by omega
    have t1 : decide (k < m) = true := by simpa using hlt
    obtain ⟨b, off, rfl, hbl, c1⟩ := H.out.at k hlt
    have hst := cnt_step ks k (by rw [HK.out]; exact hlt)
    have e : ((lets ks).map fun (i : Nat) => (i : Int)).getD k 0 = (((lets ks).getD k 0 : Nat) : Int) := by
     have hkl : k < (lets ks).length := by rw [lets_len, HK.out]; exact hlt
     simp [List.getD, List.getElem?_eq_getElem hkl]
    rw [e] at c1; clear e
    rw [<- HN.out] at hst
    generalize (lets ks).getD k 0 = y at *
    rcases hst with ⟨q1, q2⟩ | ⟨q1, q2⟩
    ·have HQ := Lib.hid q2; clear q2
     subst q1
     go_wp2_with fail
     exact ⟨⟨k + 1, y + 1, by omega, by omega, by go_num, by go_num, Lib.hid HQ.out.symm, trivial⟩, by simp [intOf]; omega⟩
    ·have HQ := Lib.hid q2; clear q2
     have t2 : ((y : Int) == (n : Int)) = false := by simp; omega
     go_wp2_with fail
     exact ⟨⟨k + 1, n, by omega, by omega, by go_num, rfl, Lib.hid HQ.out.symm, trivial⟩, by simp [intOf]; omega⟩
   ·have HE := Lib.hid (cnt_all ks k (by rw [HK.out]; omega))
    go_wp2_with fail
    go_ret
    exact ⟨by rw [<- HE.out, <- HN.out]; rfl, Below.refl _ _⟩
end Go.Proofs.YtfccnadbiglagaaGreat
namespace Go.Proofs.YtfccnadbiglagaaGreat
open Go Go.RowKit
theorem rising_all {c : List Int} (h : c.Pairwise (· < ·)) {k t : Nat} (ht : t < k + 1) (hk : k < c.length) {x : Int} (hx : c.getD k 0 <= x) : c.getD t 0 <= x := by
 rcases Nat.lt_or_ge t k with g | g
 ·have := rising_lt h g hk; omega
 ·have : t = k := by omega
  subst this; exact hx
theorem plet_x {w : World} {v u : Value} {m : Nat} {ss : List (List (Int × Int))} {x : Int} (hss : RtAll ss) (h : ReadsI w v m (cutsL ss)) (h' : ReadsI w u m (letsL ss)) (hm : m <= 1000000000) (hx : InN x) :
  Calls Tryz.prog 61 #[v, u, .int .i64 x] w (SaysI w (letOf ss x : Nat)) := by
  obtain ⟨k, e, k1, k2, k3, k4⟩ := cut_of hss x hx.1 hx.2
  have hl := h.1
  have := plet_any (k := k) (x := x) h h' hm hx.2 (by omega) (fun t ht => rising_all (cutsL_is hss).1 ht k1 k2) (fun t h1 h2 => k3 t (by omega) (by omega))
  rw [letsL_at ss k k1, <- k4] at this
  exact this
def SomeCuts (w : World) (ss : List (List (Int × Int))) (e : Ending) (w' : World) : Prop :=
 ∃ (m : Nat) (a : Option Addr) (c : Nat) (a' : Option Addr) (c' : Nat), e = .returned (.tuple #[.slice a m c, .slice a' m c']) /\ m <= 100000000 /\ ReadsI w' (.slice a m c) m (cutsL ss) /\ ReadsI w' (.slice a' m c') m (letsL ss) /\ Below w.heap.size w w'
theorem some_cuts {w : World} {k0 : Nat} {ss : List (List (Int × Int))} {e : Ending} {w' : World} (hr : RtAll ss) (hk : ss.length <= 13) (h : CutTells w (cutsL ss) (letsL ss) e w') : SomeCuts w ss e w' := by
 obtain ⟨v, u, rfl, h1, h2, h3⟩ := h
 have r1 := h1.readsI
 have r2 := h2.readsI
 obtain ⟨a, c, rfl, _⟩ := r1.form
 obtain ⟨a', c', rfl, _⟩ := r2.form
 have hl := letsL_len ss
 have hm := cutsL_len hr 13 hk
 rw [hl] at r2
 exact ⟨_, a, c, a', c', by rw [hl], by omega, r1, r2, h3⟩
theorem cuts_x {w : World} {v : Value} {k0 : Nat} {ss : List (List (Int × Int))} (h : ReadsL w v k0 ss) (hr : RtAll ss) (hk0 : k0 <= 13) :
  Calls Tryz.prog 58 #[v] w (SomeCuts w ss) := (cuts_any h hr hk0).mono fun e w' hh => some_cuts (k0 := k0) hr (by rw [h.1]; exact hk0) hh
end Go.Proofs.YtfccnadbiglagaaGreat
