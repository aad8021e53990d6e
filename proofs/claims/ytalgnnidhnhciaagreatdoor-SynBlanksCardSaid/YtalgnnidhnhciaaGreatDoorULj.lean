/- Contracts of the reference's comparisons: a pattern, a set is the same as itself, wherever both lie. Contract of how the laws make a file of rules. Contract of the reference's comparison of files. -/
import Derived.Test.YtalgnnidhnhciaaGreatDoorULh
import Derived.Deep.RegionHeld3
import Derived.Test.YtalgnnidhnhciaaGreatDoorShort
import Derived.Test.YtalgnnidhnhciaaGreatDoorUSynKa
import Derived.BigRegion
set_option linter.unusedVariables false
set_option linter.unusedSimpArgs false
set_option linter.unusedVariables false
set_option linter.unusedSimpArgs false
set_option maxRecDepth 100000
set_option maxHeartbeats 16000000
namespace Go.Proofs.YtalgnnidhnhciaaGreatDoor
open Go Go.RowKit Go.Proofs
theorem bel_c {w w' : World} (h : Below w.heap.size w w') {g i : Nat} {x : Value} (hc : w.cell? ⟨g, i, none⟩ = some x) : w'.cell? ⟨g, i, none⟩ = some x := by rw [h.cell (p := ⟨g, i, none⟩) (World.block_lt_of_cell? w _ hc)]; exact hc
theorem bytes_ext {s t : ByteArray} (h : s.data.toList = t.data.toList) : s = t := by
 cases s; cases t
 simp only [Array.toList_inj] at h
 rw [h]
theorem TreeAt.val6 {w : World} {S : Nat -> Prop} {b o : Nat} {t : Tree} (h : TreeAt true w S b o t) : ∃ (k lo hi wt : Int) (s : ByteArray) (A : Option Addr) (n c : Nat), CellsAt w b o [.int .i64 k, .int .i64 lo, .int .i64 hi, .int .i64 wt, .string s, .slice A n c] /\ TreeV true w S (.agg #[.int .i64 k, .int .i64 lo, .int .i64 hi, .int .i64 wt, .string s, .slice A n c]) t := by
 cases t with
 | mk k lo hi wt nm l =>
   rw [TreeAt] at h
   obtain ⟨s, A, n, c, h1, h2⟩ := h
   exact ⟨k, lo, hi, wt, s, A, n, c, h1, s, A, n, c, rfl, h2⟩
theorem CellsAt.at6 {w : World} {b o : Nat} {x y z u v t : Value} (h : CellsAt w b o [x, y, z, u, v, t]) : w.cell? ⟨b, o, none⟩ = some x /\ w.cell? ⟨b, o + 1, none⟩ = some y /\ w.cell? ⟨b, o + 2, none⟩ = some z /\ w.cell? ⟨b, o + 3, none⟩ = some u /\ w.cell? ⟨b, o + 4, none⟩ = some v /\ w.cell? ⟨b, o + 5, none⟩ = some t := ⟨h 0 x rfl, h 1 y rfl, h 2 z rfl, h 3 u rfl, h 4 v rfl, h 5 t rfl⟩
def Pat.kids : Pat -> List Pat
 | .none_ => [] | .set _ => [] | .any_ => [] | .cat a b => [a, b] | .alt a b => [a, b] | .star a => [a] | .times a _ _ => [a] | .weight a _ => [a]
theorem Pat.tree_kids (p : Pat) : ∃ k lo hi wt nm, p.tree = .mk k lo hi wt nm (p.kids.map Pat.tree) := by cases p <;> exact ⟨_, _, _, _, _, rfl⟩
theorem Pat.kids_len (p : Pat) : p.kids.length <= 2 := by cases p <;> simp [Pat.kids]
structure TwoS (w : World) (T : TypeId) (c0 c1 : Array Value) (W : World) : Prop where
 below : Below w.heap.size w W
 a : Blk W w.heap.size T c0
 b : Blk W (w.heap.size + 1) T c1
theorem TwoS.mk' (w : World) (T : TypeId) (c0 c1 : Array Value) : TwoS w T c0 c1 ((w.alloc (.cells c0 T)).alloc (.cells c1 T)) := by
 have h := Blk.new (w.alloc (.cells c0 T)) T c1
 exact ⟨((Below.refl _ _).alloc (Nat.le_refl _) _).alloc (by simp) _, Blk.alloc (Blk.new w _ _) _, by simpa using h⟩
theorem TwoS.bel {w W W' : World} {T : TypeId} {c0 c1 : Array Value} (h : TwoS w T c0 c1 W) (hb : Below W.heap.size W W') : TwoS w T c0 c1 W' :=
 ⟨h.below.trans (hb.mono h.below.size), Blk.below h.a hb h.a.lt, Blk.below h.b hb h.b.lt⟩
theorem TwoS.drew {w W : World} {T : TypeId} {c0 c1 : Array Value} (h : TwoS w T c0 c1 W) : TwoS w T c0 c1 W.drew := ⟨h.below.drew, Blk.drew h.a, Blk.drew h.b⟩
def SmSpecRexes (p : Pat) : Prop :=
 ∀ (w : World) (S S' : Nat -> Prop) (v v' : Value), TreeV true w S v p.tree -> TreeV true w S' v' p.tree -> Calls Tryz.prog 23 #[v, v'] w fun e w' => e = .returned (.bool true) /\ Below w.heap.size w w'
theorem same_stepRexes (p : Pat) (ih : ∀ q ∈ p.kids, SmSpecRexes q) : SmSpecRexes p := by
 intro w S S' v v' hT hT'
 obtain ⟨k, lo, hi, wt, nm0, hpt⟩ := p.tree_kids
 skip
 rw [hpt] at hT hT'
 obtain ⟨nm, A, n, c, rfl, hnm, -, hn, hnc, hcm, hAF, hA⟩ := hT
 obtain ⟨nm', A', n', c', rfl, hnm', -, hn', hnc', hcm', hAF', hA'⟩ := hT'
 obtain rfl : nm' = nm := bytes_ext (by rw [hnm', hnm])
 obtain rfl : n' = n := by omega
 rw [List.length_map] at hn
 have hkl := p.kids_len
 have hn2 : n' <= 2 := by omega
 unfold maxLen at hcm hcm'
 have hat : ∀ i q, p.kids[i]? = some q -> ∃ g o, A = some ⟨g, o, none⟩ /\ TreeAt true w S g (o + i * 6) q.tree := fun i q hq => by
  have hi : i < p.kids.length := (List.getElem?_eq_some_iff.1 hq).1
  obtain ⟨g, o, e⟩ := hAF.some (by omega)
  refine ⟨g, o, e, ?_⟩
  have := TreesAt.at_ (hA g o e (by omega)).2 i (by rw [List.length_map]; exact hi)
  rw [List.getElem?_eq_getElem hi] at hq
  injection hq with hq
  simpa [sz, hq] using this
 have hat' : ∀ i q, p.kids[i]? = some q -> ∃ g o, A' = some ⟨g, o, none⟩ /\ TreeAt true w S' g (o + i * 6) q.tree := fun i q hq => by
  have hi : i < p.kids.length := (List.getElem?_eq_some_iff.1 hq).1
  obtain ⟨g, o, e⟩ := hAF'.some (by omega)
  refine ⟨g, o, e, ?_⟩
  have := TreesAt.at_ (hA' g o e (by omega)).2 i (by rw [List.length_map]; exact hi)
  rw [List.getElem?_eq_getElem hi] at hq
  injection hq with hq
  simpa [sz, hq] using this
 show Calls Tryz.prog 23 #[.agg #[.int .i64 k, .int .i64 lo, .int .i64 hi, .int .i64 wt, .string nm', .slice A n' c], .agg #[.int .i64 k, .int .i64 lo, .int .i64 hi, .int .i64 wt, .string nm', .slice A' n' c']] w fun e w' => e = .returned (.bool true) /\ Below w.heap.size w w'
 have hR0 := TwoS.mk' w 46 #[.int .i64 k, .int .i64 lo, .int .i64 hi, .int .i64 wt, .string nm', .slice A n' c] #[.int .i64 k, .int .i64 lo, .int .i64 hi, .int .i64 wt, .string nm', .slice A' n' c']
 have IH := Lib.hid ih; have HAT := Lib.hid hat; have HAT' := Lib.hid hat'; have HR0 := Lib.hid hR0; have HNK := Lib.hid hn
 clear ih hat hat' hR0 hn hkl hA hA' hAF hAF' hnm hnm' hpt hn'
 go_enter Tryz.func23, Tryz.ntmps23
 go_wp2_with fail
 go_loopg [5] n' (fun gk vi wr => ∃ i : Nat, vi = .int .i64 i /\ gk = n' - i /\ i <= n' /\ Hid (TwoS w 46 #[.int .i64 k, .int .i64 lo, .int .i64 hi, .int .i64 wt, .string nm', .slice A n' c] #[.int .i64 k, .int .i64 lo, .int .i64 hi, .int .i64 wt, .string nm', .slice A' n' c'] wr))
 case atStart => exact ⟨0, rfl, rfl, Nat.zero_le _, HR0⟩
 case round =>
  clear HR0
  obtain ⟨i, rfl, hgk, hin, HR⟩ := hrel
  have HGK := Lib.hid hgk; clear hgk
  have i0 : (0 : Int) <= (i : Int) := Int.natCast_nonneg _
  have b4 := Blk.cell HR.out.a 5
  simp only [List.getElem?_toArray, List.getElem?_cons_zero, List.getElem?_cons_succ] at b4
  by_cases hlt : i < n'
  ·have i1 : (i : Int) < (n' : Int) := by omega
   obtain ⟨q, hq⟩ : ∃ q, p.kids[i]? = some q := ⟨_, List.getElem?_eq_getElem (by rw [HNK.out]; exact hlt)⟩
   have hqm := List.mem_of_getElem? hq
   obtain ⟨g, o, rfl, hta⟩ := HAT.out i q hq
   obtain ⟨g', o', rfl, hta'⟩ := HAT'.out i q hq
   obtain ⟨k1, lo1, hi1, wt1, s1, A1, n1, c1, hca, htv⟩ := hta.val6
   obtain ⟨k2, lo2, hi2, wt2, s2, A2, n2, c2, hca', htv'⟩ := hta'.val6
   have hbw := HR.out.below
   have hco := IH.out q hqm wr.drew S S' _ _ (htv.bel (fun _ h => h) hbw.drew) (htv'.bel (fun _ h => h) hbw.drew)
   have hRf : ∀ W : World, TwoS w 46 #[.int .i64 k, .int .i64 lo, .int .i64 hi, .int .i64 wt, .string nm', .slice (some ⟨g, o, none⟩) n' c] #[.int .i64 k, .int .i64 lo, .int .i64 hi, .int .i64 wt, .string nm', .slice (some ⟨g', o', none⟩) n' c'] W -> (fun w' : World => w'.cell? ⟨w.heap.size, 5, none⟩ = some (.slice (some ⟨g, o, none⟩) n' c) /\ w'.cell? ⟨w.heap.size + 1, 5, none⟩ = some (.slice (some ⟨g', o', none⟩) n' c') /\ w'.cell? ⟨g, o + i * 6, none⟩ = some (.int .i64 k1) /\ w'.cell? ⟨g, o + i * 6 + 1, none⟩ = some (.int .i64 lo1) /\ w'.cell? ⟨g, o + i * 6 + 2, none⟩ = some (.int .i64 hi1) /\ w'.cell? ⟨g, o + i * 6 + 3, none⟩ = some (.int .i64 wt1) /\ w'.cell? ⟨g, o + i * 6 + 4, none⟩ = some (.string s1) /\ w'.cell? ⟨g, o + i * 6 + 5, none⟩ = some (.slice A1 n1 c1) /\ w'.cell? ⟨g', o' + i * 6, none⟩ = some (.int .i64 k2) /\ w'.cell? ⟨g', o' + i * 6 + 1, none⟩ = some (.int .i64 lo2) /\ w'.cell? ⟨g', o' + i * 6 + 2, none⟩ = some (.int .i64 hi2) /\ w'.cell? ⟨g', o' + i * 6 + 3, none⟩ = some (.int .i64 wt2) /\ w'.cell? ⟨g', o' + i * 6 + 4, none⟩ = some (.string s2) /\ w'.cell? ⟨g', o' + i * 6 + 5, none⟩ = some (.slice A2 n2 c2)) W := fun W hW => by
    have hc5 := (hca.bel hW.below).at6
    have hd5 := (hca'.bel hW.below).at6
    exact ⟨Blk.cell hW.a 5, Blk.cell hW.b 5, hc5.1, hc5.2.1, hc5.2.2.1, hc5.2.2.2.1, hc5.2.2.2.2.1, hc5.2.2.2.2.2, hd5.1, hd5.2.1, hd5.2.2.1, hd5.2.2.2.1, hd5.2.2.2.2.1, hd5.2.2.2.2.2⟩
   have hbrg : TwoS w 46 #[.int .i64 k, .int .i64 lo, .int .i64 hi, .int .i64 wt, .string nm', .slice (some ⟨g, o, none⟩) n' c] #[.int .i64 k, .int .i64 lo, .int .i64 hi, .int .i64 wt, .string nm', .slice (some ⟨g', o', none⟩) n' c'] wr := HR.out
   have HCO := Lib.hid hco; have HRF := Lib.hid hRf
   clear hco hRf hta hta' hca hca' htv htv' hbw hq hqm HAT HAT' IH
   go_wp2_with fail
   have hS := HRF.out _ hbrg.drew
   go_region_held3 (fun w' : World => w'.cell? ⟨w.heap.size, 5, none⟩ = some (.slice (some ⟨g, o, none⟩) n' c) /\ w'.cell? ⟨w.heap.size + 1, 5, none⟩ = some (.slice (some ⟨g', o', none⟩) n' c') /\ w'.cell? ⟨g, o + i * 6, none⟩ = some (.int .i64 k1) /\ w'.cell? ⟨g, o + i * 6 + 1, none⟩ = some (.int .i64 lo1) /\ w'.cell? ⟨g, o + i * 6 + 2, none⟩ = some (.int .i64 hi1) /\ w'.cell? ⟨g, o + i * 6 + 3, none⟩ = some (.int .i64 wt1) /\ w'.cell? ⟨g, o + i * 6 + 4, none⟩ = some (.string s1) /\ w'.cell? ⟨g, o + i * 6 + 5, none⟩ = some (.slice A1 n1 c1) /\ w'.cell? ⟨g', o' + i * 6, none⟩ = some (.int .i64 k2) /\ w'.cell? ⟨g', o' + i * 6 + 1, none⟩ = some (.int .i64 lo2) /\ w'.cell? ⟨g', o' + i * 6 + 2, none⟩ = some (.int .i64 hi2) /\ w'.cell? ⟨g', o' + i * 6 + 3, none⟩ = some (.int .i64 wt2) /\ w'.cell? ⟨g', o' + i * 6 + 4, none⟩ = some (.string s2) /\ w'.cell? ⟨g', o' + i * 6 + 5, none⟩ = some (.slice A2 n2 c2))
    (with_reducible (first | exact hS | exact hS3))
    (first
     | (go_at_call 23; (with_reducible refine HCO.out.mono ?_)
        rintro e w3 ⟨rfl, hb3⟩
        have hb3' : Below wr.heap.size wr w3 := (Below.refl _ wr).drew.trans hb3
        have hR3 := hbrg.bel hb3'
        have hS3 := HRF.out _ hR3
        have HRN := Lib.hid hR3
        clear hb3 hb3' hR3))
   go_wp2_with fail
   go_roundg (n' - (i + 1))
   case measure => have := HGK.out; omega
   case rel => exact ⟨i + 1, by go_num, rfl, hlt, HRN⟩
  ·obtain rfl : i = n' := by omega
   have HB := Lib.hid HR.out.below
   clear HR HAT HAT' IH HGK
   go_wp2_with fail
   go_ret
   exact ⟨rfl, HB.out⟩
def SmSpecClasses (p : Cls) : Prop :=
 ∀ (w : World) (S S' : Nat -> Prop) (v v' : Value), TreeV false w S v p.tree -> TreeV false w S' v' p.tree -> Calls Tryz.prog 44 #[v, v'] w fun e w' => e = .returned (.bool true) /\ Below w.heap.size w w'
theorem same_stepClasses (p : Cls) (ih : ∀ q ∈ p.kids, SmSpecClasses q) : SmSpecClasses p := by
 intro w S S' v v' hT hT'
 obtain ⟨lo, hi, nm0, hpt⟩ := p.tree_kids
 obtain ⟨k, hk⟩ : ∃ k, p.kind = k := ⟨_, rfl⟩
 rw [hk] at hpt
 rw [hpt] at hT hT'
 obtain ⟨nm, A, n, c, rfl, hnm, -, hn, hnc, hcm, hAF, hA⟩ := hT
 obtain ⟨nm', A', n', c', rfl, hnm', -, hn', hnc', hcm', hAF', hA'⟩ := hT'
 obtain rfl : nm' = nm := bytes_ext (by rw [hnm', hnm])
 obtain rfl : n' = n := by omega
 rw [List.length_map] at hn
 have hkl := p.kids_len
 have hn2 : n' <= 2 := by omega
 unfold maxLen at hcm hcm'
 have hat : ∀ i q, p.kids[i]? = some q -> ∃ g o, A = some ⟨g, o, none⟩ /\ TreeAt false w S g (o + i * 5) q.tree := fun i q hq => by
  have hi : i < p.kids.length := (List.getElem?_eq_some_iff.1 hq).1
  obtain ⟨g, o, e⟩ := hAF.some (by omega)
  refine ⟨g, o, e, ?_⟩
  have := TreesAt.at_ (hA g o e (by omega)).2 i (by rw [List.length_map]; exact hi)
  rw [List.getElem?_eq_getElem hi] at hq
  injection hq with hq
  simpa [sz, hq] using this
 have hat' : ∀ i q, p.kids[i]? = some q -> ∃ g o, A' = some ⟨g, o, none⟩ /\ TreeAt false w S' g (o + i * 5) q.tree := fun i q hq => by
  have hi : i < p.kids.length := (List.getElem?_eq_some_iff.1 hq).1
  obtain ⟨g, o, e⟩ := hAF'.some (by omega)
  refine ⟨g, o, e, ?_⟩
  have := TreesAt.at_ (hA' g o e (by omega)).2 i (by rw [List.length_map]; exact hi)
  rw [List.getElem?_eq_getElem hi] at hq
  injection hq with hq
  simpa [sz, hq] using this
 show Calls Tryz.prog 44 #[.agg #[.int .i64 k, .int .i64 lo, .int .i64 hi, .string nm', .slice A n' c], .agg #[.int .i64 k, .int .i64 lo, .int .i64 hi, .string nm', .slice A' n' c']] w fun e w' => e = .returned (.bool true) /\ Below w.heap.size w w'
 have hR0 := TwoS.mk' w 35 #[.int .i64 k, .int .i64 lo, .int .i64 hi, .string nm', .slice A n' c] #[.int .i64 k, .int .i64 lo, .int .i64 hi, .string nm', .slice A' n' c']
 have IH := Lib.hid ih; have HAT := Lib.hid hat; have HAT' := Lib.hid hat'; have HR0 := Lib.hid hR0; have HNK := Lib.hid hn
 clear ih hat hat' hR0 hn hkl hA hA' hAF hAF' hnm hnm' hpt hn' hk
 go_enter Tryz.func44, Tryz.ntmps44
 go_wp2_with fail
 go_loopg [5] n' (fun gk vi wr => ∃ i : Nat, vi = .int .i64 i /\ gk = n' - i /\ i <= n' /\ Hid (TwoS w 35 #[.int .i64 k, .int .i64 lo, .int .i64 hi, .string nm', .slice A n' c] #[.int .i64 k, .int .i64 lo, .int .i64 hi, .string nm', .slice A' n' c'] wr))
 case atStart => exact ⟨0, rfl, rfl, Nat.zero_le _, HR0⟩
 case round =>
  clear HR0
  obtain ⟨i, rfl, hgk, hin, HR⟩ := hrel
  have HGK := Lib.hid hgk; clear hgk
  have i0 : (0 : Int) <= (i : Int) := Int.natCast_nonneg _
  have b4 := Blk.cell HR.out.a 4
  simp only [List.getElem?_toArray, List.getElem?_cons_zero, List.getElem?_cons_succ] at b4
  by_cases hlt : i < n'
  ·have i1 : (i : Int) < (n' : Int) := by omega
   obtain ⟨q, hq⟩ : ∃ q, p.kids[i]? = some q := ⟨_, List.getElem?_eq_getElem (by rw [HNK.out]; exact hlt)⟩
   have hqm := List.mem_of_getElem? hq
   obtain ⟨g, o, rfl, hta⟩ := HAT.out i q hq
   obtain ⟨g', o', rfl, hta'⟩ := HAT'.out i q hq
   obtain ⟨k1, lo1, hi1, s1, A1, n1, c1, hca, htv⟩ := hta.val5
   obtain ⟨k2, lo2, hi2, s2, A2, n2, c2, hca', htv'⟩ := hta'.val5
   have hbw := HR.out.below
   have hco := IH.out q hqm wr.drew S S' _ _ (htv.bel (fun _ h => h) hbw.drew) (htv'.bel (fun _ h => h) hbw.drew)
   have hRf : ∀ W : World, TwoS w 35 #[.int .i64 k, .int .i64 lo, .int .i64 hi, .string nm', .slice (some ⟨g, o, none⟩) n' c] #[.int .i64 k, .int .i64 lo, .int .i64 hi, .string nm', .slice (some ⟨g', o', none⟩) n' c'] W -> (fun w' : World => w'.cell? ⟨w.heap.size, 4, none⟩ = some (.slice (some ⟨g, o, none⟩) n' c) /\ w'.cell? ⟨w.heap.size + 1, 4, none⟩ = some (.slice (some ⟨g', o', none⟩) n' c') /\ w'.cell? ⟨g, o + i * 5, none⟩ = some (.int .i64 k1) /\ w'.cell? ⟨g, o + i * 5 + 1, none⟩ = some (.int .i64 lo1) /\ w'.cell? ⟨g, o + i * 5 + 2, none⟩ = some (.int .i64 hi1) /\ w'.cell? ⟨g, o + i * 5 + 3, none⟩ = some (.string s1) /\ w'.cell? ⟨g, o + i * 5 + 4, none⟩ = some (.slice A1 n1 c1) /\ w'.cell? ⟨g', o' + i * 5, none⟩ = some (.int .i64 k2) /\ w'.cell? ⟨g', o' + i * 5 + 1, none⟩ = some (.int .i64 lo2) /\ w'.cell? ⟨g', o' + i * 5 + 2, none⟩ = some (.int .i64 hi2) /\ w'.cell? ⟨g', o' + i * 5 + 3, none⟩ = some (.string s2) /\ w'.cell? ⟨g', o' + i * 5 + 4, none⟩ = some (.slice A2 n2 c2)) W := fun W hW => by
    have hc5 := (hca.bel hW.below).at5
    have hd5 := (hca'.bel hW.below).at5
    exact ⟨Blk.cell hW.a 4, Blk.cell hW.b 4, hc5.1, hc5.2.1, hc5.2.2.1, hc5.2.2.2.1, hc5.2.2.2.2, hd5.1, hd5.2.1, hd5.2.2.1, hd5.2.2.2.1, hd5.2.2.2.2⟩
   have hbrg : TwoS w 35 #[.int .i64 k, .int .i64 lo, .int .i64 hi, .string nm', .slice (some ⟨g, o, none⟩) n' c] #[.int .i64 k, .int .i64 lo, .int .i64 hi, .string nm', .slice (some ⟨g', o', none⟩) n' c'] wr := HR.out
   have HCO := Lib.hid hco; have HRF := Lib.hid hRf
   clear hco hRf hta hta' hca hca' htv htv' hbw hq hqm HAT HAT' IH
   go_wp2_with fail
   have hS := HRF.out _ hbrg.drew
   go_region_held3 (fun w' : World => w'.cell? ⟨w.heap.size, 4, none⟩ = some (.slice (some ⟨g, o, none⟩) n' c) /\ w'.cell? ⟨w.heap.size + 1, 4, none⟩ = some (.slice (some ⟨g', o', none⟩) n' c') /\ w'.cell? ⟨g, o + i * 5, none⟩ = some (.int .i64 k1) /\ w'.cell? ⟨g, o + i * 5 + 1, none⟩ = some (.int .i64 lo1) /\ w'.cell? ⟨g, o + i * 5 + 2, none⟩ = some (.int .i64 hi1) /\ w'.cell? ⟨g, o + i * 5 + 3, none⟩ = some (.string s1) /\ w'.cell? ⟨g, o + i * 5 + 4, none⟩ = some (.slice A1 n1 c1) /\ w'.cell? ⟨g', o' + i * 5, none⟩ = some (.int .i64 k2) /\ w'.cell? ⟨g', o' + i * 5 + 1, none⟩ = some (.int .i64 lo2) /\ w'.cell? ⟨g', o' + i * 5 + 2, none⟩ = some (.int .i64 hi2) /\ w'.cell? ⟨g', o' + i * 5 + 3, none⟩ = some (.string s2) /\ w'.cell? ⟨g', o' + i * 5 + 4, none⟩ = some (.slice A2 n2 c2))
    (with_reducible (first | exact hS | exact hS3))
    (first
     | (go_at_call 44; (with_reducible refine HCO.out.mono ?_)
        rintro e w3 ⟨rfl, hb3⟩
        have hb3' : Below wr.heap.size wr w3 := (Below.refl _ wr).drew.trans hb3
        have hR3 := hbrg.bel hb3'
        have hS3 := HRF.out _ hR3
        have HRN := Lib.hid hR3
        clear hb3 hb3' hR3))
   go_wp2_with fail
   go_roundg (n' - (i + 1))
   case measure => have := HGK.out; omega
   case rel => exact ⟨i + 1, by go_num, rfl, hlt, HRN⟩
  ·obtain rfl : i = n' := by omega
   have HB := Lib.hid HR.out.below
   clear HR HAT HAT' IH HGK
   go_wp2_with fail
   go_ret
   exact ⟨rfl, HB.out⟩
theorem sameRexes (p : Pat) : SmSpecRexes p := by
 induction p with
 | none_ => exact same_stepRexes _ fun q hq => by cases hq
 | set x => exact same_stepRexes _ fun q hq => by cases hq
 | any_ => exact same_stepRexes _ fun q hq => by cases hq
 | star a ih => exact same_stepRexes _ fun q hq => (show q = a by simpa [Pat.kids] using hq) ▸ ih
 | times a x y ih => exact same_stepRexes _ fun q hq => (show q = a by simpa [Pat.kids] using hq) ▸ ih
 | weight a x ih => exact same_stepRexes _ fun q hq => (show q = a by simpa [Pat.kids] using hq) ▸ ih
 | cat a b iha ihb => exact same_stepRexes _ fun q hq => (show q = a \/ q = b by simpa [Pat.kids] using hq).elim (fun e => e ▸ iha) (fun e => e ▸ ihb)
 | alt a b iha ihb => exact same_stepRexes _ fun q hq => (show q = a \/ q = b by simpa [Pat.kids] using hq).elim (fun e => e ▸ iha) (fun e => e ▸ ihb)
theorem sameClasses (p : Cls) : SmSpecClasses p := by
 induction p with
 | range x y => exact same_stepClasses _ fun q hq => by cases hq
 | name x => exact same_stepClasses _ fun q hq => by cases hq
 | any_ => exact same_stepClasses _ fun q hq => by cases hq
 | not_ a ih => exact same_stepClasses _ fun q hq => (show q = a by simpa [Cls.kids] using hq) ▸ ih
 | or_ a b iha ihb => exact same_stepClasses _ fun q hq => (show q = a \/ q = b by simpa [Cls.kids] using hq).elim (fun e => e ▸ iha) (fun e => e ▸ ihb)
 | and_ a b iha ihb => exact same_stepClasses _ fun q hq => (show q = a \/ q = b by simpa [Cls.kids] using hq).elim (fun e => e ▸ iha) (fun e => e ▸ ihb)
 | less a b iha ihb => exact same_stepClasses _ fun q hq => (show q = a \/ q = b by simpa [Cls.kids] using hq).elim (fun e => e ▸ iha) (fun e => e ▸ ihb)
end Go.Proofs.YtalgnnidhnhciaaGreatDoor
set_option linter.unusedVariables false
set_option linter.unusedSimpArgs false
namespace Go.Proofs.YtalgnnidhnhciaaGreatDoor
open Go Go.RowKit Go.Proofs
def MadeF (w : World) (defs : List DefP) (rules : List RuleP) (e : Ending) (w' : World) : Prop :=
 ∃ ds rs, e = .returned (.agg #[ds, rs]) /\ DefsOwn w' w.heap.size ds (defs.map DefP.tree) /\ RulesOwn w' w.heap.size rs (rules.map RuleP.tree) /\ Below w.heap.size w w'
def rulesUp (l : List RawP) (ns : List Int) (j : Nat) : List RuleP := (List.range j).map (ruleOf l ns)
theorem rulesUp_next (l : List RawP) (ns : List Int) (j : Nat) : rulesUp l ns (j + 1) = rulesUp l ns j ++ [ruleOf l ns j] := by unfold rulesUp; rw [List.range_succ, List.map_append]; rfl
theorem rulesUp_len (l : List RawP) (ns : List Int) (j : Nat) : (rulesUp l ns j).length = j := by simp [rulesUp]
theorem rulesUp_done (l : List RawP) (ns : List Int) (j : Nat) (h1 : j <= 4) (h2 : 2 * j <= l.length) (h3 : l.length <= 2 * j + 1 \/ 4 <= j) : rulesUp l ns j = rulesOf l ns := by
 unfold rulesUp rulesOf
 congr 2
 omega
theorem DefsOwn.belB {w w' : World} {B H : Nat} {v : Value} {l : List (Bs × Tree)} (h : DefsOwn w B v l) (hb : Below w.heap.size w w') : DefsOwn w' B v l := by
 obtain ⟨cs, h1, h2⟩ := h
 exact ⟨cs, World.ownsRow.kept h1 (only_of_below hb none) (none_or v), h2.mono fun x d q => q.keep (fun g hg _ => hg) (fun g _ i y hy => bel_c hb hy)⟩
theorem RulesOwn.belB {w w' : World} {B : Nat} {v : Value} {l : List RuleT} (h : RulesOwn w B v l) (hb : Below w.heap.size w w') : RulesOwn w' B v l := by
 obtain ⟨cs, h1, h2⟩ := h
 exact ⟨cs, World.ownsRow.kept h1 (only_of_below hb none) (none_or v), h2.mono fun x d q => q.keep (fun g hg _ => hg) (fun g _ i y hy => bel_c hb hy)⟩
theorem DefsOwn.far2 {w : World} {B : Nat} {v : Value} {l : List (Bs × Tree)} (h : DefsOwn w B v l) {g i : Nat} (hq : g < B) {u : Value} : DefsOwn (w.setCell ⟨g, i, none⟩ u) B v l := h.far (q := ⟨g, i, none⟩) hq u
theorem RulesOwn.far2 {w : World} {B g i : Nat} {v : Value} {l : List RuleT} (h : RulesOwn w (B + 1) v l) (hq : g < B) {u : Value} : RulesOwn (w.setCell ⟨g, i, none⟩ u) (B + 1) v l := h.far (q := ⟨g, i, none⟩) (Nat.lt_succ_of_lt hq) u
theorem file_made (l : List RawP) (hfew : sizeR 6 l <= 30) (ns ds : List Int) (w : World) (lv nv dv : Value) (hl : RawL w lv l) (hn : IntsR w nv ns) (hd : IntsR w dv ds) :
  Calls Tryz.prog 24 #[lv, nv, dv] w (MadeF w (defsOf ds) (rulesOf l ns)) := by
  have hl0 := hl; have hn0 := hn
  obtain ⟨LA, ll, lc, rfl, hll, hllc, hlcm, -, -⟩ := hl
  obtain ⟨NA, nn, nc, rfl, hnn, hnnc, hncm, -, hncell⟩ := hn
  obtain ⟨DA, dn, dc, rfl, hdd, hddc, hdcm, -, -⟩ := id hd
  unfold maxLen at hlcm hncm hdcm
  have hdm := fun W (hW : Below w.heap.size w W) => defs_made ds W (.slice DA dn dc) (hd.below hW)
  have hmk : ∀ (right : Bool) (i : Nat) (hi : i < l.length) (W : World), Below w.heap.size w W -> ∀ u, RawL w u (l[i]).l -> (Lit.int .i64 (l[i]).n).wf = true -> Calls Tryz.prog 19 #[.agg #[.int .i64 (l[i]).k, .int .i64 (l[i]).n, u], .bool right] W (MadeR W ((l[i]).pat right)) :=
   fun right i hi W hW u hu hw => make_any right 5 (l[i]) W u (few_mem hfew (List.getElem_mem hi)).1 (hu.below hW) hw
  have hget := fun i (hi : i < l.length) => hl0.get hi
  have HDM := Lib.hid hdm; have HMK := Lib.hid hmk; have HGET := Lib.hid hget; have HNC := Lib.hid hncell; have HLL := Lib.hid hll; have HNN := Lib.hid hnn
  clear hdm hmk hget hncell hl0 hn0 hd hll hnn hdd hfew
  go_enter Tryz.func24, Tryz.ntmps24
  go_wp2_with fail
  obtain ⟨W0, hW0⟩ : ∃ W0, w.alloc (.cells #[.slice none 0 0, .slice none 0 0] 28) = W0 := ⟨_, rfl⟩
  have hb0 : Below w.heap.size w W0 := by rw [<- hW0]; exact (Below.refl _ _).alloc (Nat.le_refl _) _
  have hr0 : Blk W0 w.heap.size 28 #[.slice none 0 0, .slice none 0 0] := by rw [<- hW0]; exact Blk.new _ _ _
  rw [hW0]
  have HD0 := Lib.hid (HDM.out W0 hb0)
  have HB0 := Lib.hid hb0; have HR0 := Lib.hid hr0
  clear hb0 hr0 hW0 HDM
  refine HD0.out.mono ?_
  rintro e W1 ⟨u, rfl, hown, hb1⟩
  obtain ⟨UA, uc, rfl, hu1, hu2, hunil⟩ := hown.form
  obtain ⟨n, hndE⟩ : ∃ n, ((defsOf ds).map DefP.tree).length = n := ⟨_, rfl⟩
  rw [hndE] at hu1 ⊢
  have hown' : DefsOwn W1 W0.heap.size (.slice UA n uc) ((defsOf ds).map DefP.tree) := by rw [<- hndE]; exact hown
  unfold maxLen at hu2
  have hB1 : Below w.heap.size w W1 := HB0.out.trans (hb1.mono HB0.out.size)
  have hr1 := Blk.below HR0.out hb1 HR0.out.lt
  have HOWN := Lib.hid hown'; have HB1 := Lib.hid hB1; have HR1 := Lib.hid hr1; have HZ0 := Lib.hid HR0.out.lt
  clear hown hown' hb1 hB1 hr1 hunil hndE HD0 HB0 HR0
  go_wp2_with fail
  obtain ⟨W2, hW2⟩ : ∃ W2, W1.alloc (.cells #[.slice UA n uc, .slice none 0 0] 28) = W2 := ⟨_, rfl⟩
  have hfb : Blk W2 W1.heap.size 28 #[.slice UA n uc, .slice none 0 0] := by rw [<- hW2]; exact Blk.new _ _ _
  have hb12 : Below W1.heap.size W1 W2 := by rw [<- hW2]; exact (Below.refl _ _).alloc (Nat.le_refl _) _
  rw [hW2]
  obtain ⟨H, hH⟩ : ∃ H, W1.heap.size = H := ⟨_, rfl⟩
  rw [hH] at hfb hb12 ⊢
  have HFB := Lib.hid hfb; have HB12 := Lib.hid hb12; have HHE := Lib.hid hH
  clear hfb hb12 hW2 hH
  go_loopg [8] 5 (fun gk vi wr => ∃ (j rc : Nat) (rA : Option Addr), vi = .int .i64 ((2 * j : Nat) : Int) /\ gk = 5 - j /\ j <= 4 /\ 2 * j <= ll + 1 /\ j <= rc /\ rc <= 9223372036854775807 /\ Hid (2 * j <= ll \/ j = 0) /\ Hid (Below H W1 wr) /\ Hid (Blk wr H 28 #[.slice UA n uc, .slice rA j rc]) /\ Hid (RulesOwn wr (H + 1) (.slice rA j rc) ((rulesUp l ns j).map RuleP.tree)))
  case atStart => exact ⟨0, 0, none, rfl, rfl, by omega, by omega, by omega, by omega, Lib.hid (.inr rfl), HB12, HFB, Lib.hid (RulesOwn.nil _ _)⟩
  case round =>
   clear HFB HB12
   obtain ⟨j, rc, rA, rfl, hgk, hj4, hjl1, hjrc, hrcm, HJ0, HB, HF, HRO⟩ := hrel
   have HGK := Lib.hid hgk; clear hgk
   obtain ⟨i, hiE⟩ : ∃ i, 2 * j = i := ⟨_, rfl⟩
   have HIE := Lib.hid hiE
   rw [hiE]
   have i0 : (0 : Int) <= (i : Int) := Int.natCast_nonneg _
   have i8 : (i : Int) <= 8 := by omega
   by_cases hlt : i + 1 < ll /\ i < 8
   ·obtain ⟨hlt1, hlt8⟩ := hlt
    have i1 : (i : Int) + 1 < (ll : Int) := by omega
    have i2 : (i : Int) < 8 := by omega
    have hil : i < l.length := by rw [HLL.out]; omega
    have hil1 : i + 1 < l.length := by rw [HLL.out]; omega
    obtain ⟨g, o, m', c', u, e, -, -, -, hcs, -, hw, hu⟩ := HGET.out i hil
    obtain ⟨g', o', m2, c2, u2, e2, -, -, -, hcs2, -, hw2, hu2'⟩ := HGET.out (i + 1) hil1
    rw [e] at e2
    injection e2 with e3 _ _
    obtain rfl : g = g' := by injection e3 with e3; injection e3
    obtain rfl : o = o' := by injection e3 with e3; injection e3
    injection e with e1 e1b e1c
    subst e1
    clear e1b e1c e3
    have hmk1 := fun W hW => HMK.out false i hil W hW u hu hw
    have hmk2 := fun W hW => HMK.out true (i + 1) hil1 W hW u2 hu2' hw2
    have hru : ruleOf l ns j = ⟨ruleN ns j % 3, ruleN ns j / 3 % 20, (l[i]).pat false, (l[i + 1]).pat true⟩ := by
     unfold ruleOf
     rw [hiE, List.getD_eq_getElem?_getD, List.getElem?_eq_getElem hil, List.getD_eq_getElem?_getD, List.getElem?_eq_getElem hil1]; rfl
    obtain ⟨pk, hpk⟩ : ∃ z, (l[i]).k = z := ⟨_, rfl⟩
    obtain ⟨pn, hpn⟩ : ∃ z, (l[i]).n = z := ⟨_, rfl⟩
    obtain ⟨qk, hqk⟩ : ∃ z, (l[i + 1]).k = z := ⟨_, rfl⟩
    obtain ⟨qn, hqn⟩ : ∃ z, (l[i + 1]).n = z := ⟨_, rfl⟩
    obtain ⟨p0, hp0⟩ : ∃ z, (l[i]).pat false = z := ⟨_, rfl⟩
    obtain ⟨p1, hp1⟩ : ∃ z, (l[i + 1]).pat true = z := ⟨_, rfl⟩
    rw [hpk, hpn] at hmk1 hcs
    rw [hqk, hqn] at hmk2 hcs2
    rw [hp0] at hmk1 hru
    rw [hp1] at hmk2 hru
    obtain ⟨uA, un, ucc, rfl, -⟩ := hu
    obtain ⟨vA, vn, vcc, rfl, -⟩ := hu2'
    have hbw : Below w.heap.size w wr := HB1.out.trans (by have := HB.out; rw [<- HHE.out] at this; exact this.mono HB1.out.size)
    have hcsg := hcs.at3.1
    obtain ⟨x0, x1, x2⟩ := (hcs.bel hbw).at3
    obtain ⟨y0, y1, y2⟩ := (hcs2.bel hbw).at3
    obtain ⟨N, hN⟩ : ∃ N, ruleN ns j = N := ⟨_, rfl⟩
    have hNb : N <= 1073741824 := by
     rw [<- hN]; unfold ruleN
     cases hz : ns[j]? with
     | none => simp only []; omega
     | some z => exact Nat.le_of_lt (wthN_lt z 1073741824 (by omega))
    rw [hN] at hru
    have hq2 : (i : Int) / 2 = (j : Int) := by omega
    have HMK1 := Lib.hid hmk1; have HMK2 := Lib.hid hmk2; have HRU := Lib.hid hru; have HBW := Lib.hid hbw; have HNE := Lib.hid hN; have HQ2 := Lib.hid hq2
    clear hmk1 hmk2 hru hpk hpn hqk hqn hp0 hp1 hcs hcs2 hw hw2 hbw hN hiE hq2 HMK HGET
    have b0 := Blk.cell HF.out 0; have b1 := Blk.cell HF.out 1
    simp only [List.getElem?_toArray, List.getElem?_cons_zero, List.getElem?_cons_succ] at b0 b1
    have HG0 := Lib.hid (World.block_lt_of_cell? w _ (hcsg))
    have XX := Lib.hid (And.intro x0 (And.intro x1 (And.intro x2 (And.intro y0 (And.intro y1 (And.intro y2 b1))))))
    clear x0 x1 x2 y0 y1 y2 hcsg
    have n0 : (0 : Int) <= (N : Int) := Int.natCast_nonneg _
    have n1 : (N : Int) <= 1073741824 := by omega
    have hq2 := HQ2.out
    have hb1z : Below wr.heap.size wr wr.drew := (Below.refl _ wr).drew
    by_cases hjn : j < nn
    ·obtain ⟨z, hz0⟩ : ∃ z, ns[j]? = some z := ⟨_, List.getElem?_eq_getElem (by rw [HNN.out]; exact hjn)⟩
     obtain ⟨g3, o3, rfl, hz⟩ := HNC.out j z hz0
     have hNz := HNE.out
     unfold ruleN at hNz
     rw [hz0] at hNz
     clear hz0
     have hzr := bel_c HBW.out hz
     have hwz := fun w => wth_any z 1073741824 (by omega) (by omega) w
     have hNz' : wthN z 1073741824 = N := hNz
     rw [hNz'] at hwz
     have HWZ := Lib.hid hwz
     have jn : (j : Int) < (nn : Int) := by omega
     have j0 : (0 : Int) <= (j : Int) := by omega
     clear hwz hNz hNz' hz HNC
     go_wp2_with fail
     refine (HWZ.out _).mono ?_
     rintro e W ⟨rfl, rfl⟩
     clear hzr HWZ
     go_wp2_with fail
     have ts : IntKind.i64.wrap ((i : Int) + 1) = (i : Int) + 1 := IntWalk.i64_in _ (by omega)
     have te3 : (N : Int).tmod 3 = (N : Int) % 3 := Int.tmod_eq_emod_of_nonneg n0
     have teq : IntKind.i64.wrap ((N : Int) / 3) = (N : Int) / 3 := IntWalk.i64_in _ (by omega)
     have te20 : ((N : Int) / 3).tmod 20 = (N : Int) / 3 % 20 := Int.tmod_eq_emod_of_nonneg (by omega)
     have hin1 : i < ll := by omega
     have hin2 : (0 : Int) <= (i : Int) + 1 := by omega
     have hin3 : (i : Int) < (ll : Int) := by omega
     have hSo := XX.out
     refine region_x 22 (fun w' : World => w'.cell? ⟨g, o + i * 3, none⟩ = some (.int .i64 pk) /\ w'.cell? ⟨g, o + i * 3 + 1, none⟩ = some (.int .i64 pn) /\ w'.cell? ⟨g, o + i * 3 + 2, none⟩ = some (.slice uA un ucc) /\ w'.cell? ⟨g, o + (i + 1) * 3, none⟩ = some (.int .i64 qk) /\ w'.cell? ⟨g, o + (i + 1) * 3 + 1, none⟩ = some (.int .i64 qn) /\ w'.cell? ⟨g, o + (i + 1) * 3 + 2, none⟩ = some (.slice vA vn vcc) /\ w'.cell? ⟨H, 1, none⟩ = some (.slice rA j rc)) (by kernel_rfl) ?_
     have hS : (fun w' : World => w'.cell? ⟨g, o + i * 3, none⟩ = some (.int .i64 pk) /\ w'.cell? ⟨g, o + i * 3 + 1, none⟩ = some (.int .i64 pn) /\ w'.cell? ⟨g, o + i * 3 + 2, none⟩ = some (.slice uA un ucc) /\ w'.cell? ⟨g, o + (i + 1) * 3, none⟩ = some (.int .i64 qk) /\ w'.cell? ⟨g, o + (i + 1) * 3 + 1, none⟩ = some (.int .i64 qn) /\ w'.cell? ⟨g, o + (i + 1) * 3 + 2, none⟩ = some (.slice vA vn vcc) /\ w'.cell? ⟨H, 1, none⟩ = some (.slice rA j rc)) wr.drew := hSo
     refine tkx (i := 0) (v := ?_) hS ?_ ?_
     rotate_left
     ·rintro w' ⟨s0, s1, s2, s3, s4, s5, s6⟩
      go_simp
      try with_reducible rfl
     try simp only [Act.put, zq1, zq2, zq3, zq4, zq5, zq6]
     refine tkx (i := 1) (v := ?_) hS ?_ ?_
     rotate_left
     ·rintro w' ⟨s0, s1, s2, s3, s4, s5, s6⟩
      go_simp
      try with_reducible rfl
     try simp only [Act.put, zq1, zq2, zq3, zq4, zq5, zq6]
     refine tkx (i := 2) (v := ?_) hS ?_ ?_
     rotate_left
     ·rintro w' ⟨s0, s1, s2, s3, s4, s5, s6⟩
      go_simp
      try with_reducible rfl
     try simp only [Act.put, zq1, zq2, zq3, zq4, zq5, zq6]
     refine tkx (i := 3) (v := .int .i64 ((N : Int) % 3)) hS ?_ ?_
     ·rintro w' ⟨s0, s1, s2, s3, s4, s5, s6⟩
      go_simp
      try with_reducible rfl
     try simp only [Act.put, zq1, zq2, zq3, zq4, zq5, zq6]
     refine tkx (i := 4) (v := ?_) hS ?_ ?_
     rotate_left
     ·rintro w' ⟨s0, s1, s2, s3, s4, s5, s6⟩
      go_simp
      try with_reducible rfl
     try simp only [Act.put, zq1, zq2, zq3, zq4, zq5, zq6]
     refine tkx (i := 5) (v := .int .i64 ((N : Int) / 3)) hS ?_ ?_
     ·rintro w' ⟨s0, s1, s2, s3, s4, s5, s6⟩
      go_simp
      try with_reducible rfl
     try simp only [Act.put, zq1, zq2, zq3, zq4, zq5, zq6]
     refine tkx (i := 6) (v := .int .i64 ((N : Int) / 3 % 20)) hS ?_ ?_
     ·rintro w' ⟨s0, s1, s2, s3, s4, s5, s6⟩
      go_simp
      try with_reducible rfl
     try simp only [Act.put, zq1, zq2, zq3, zq4, zq5, zq6]
     refine tkx (i := 7) (v := ?_) hS ?_ ?_
     rotate_left
     ·rintro w' ⟨s0, s1, s2, s3, s4, s5, s6⟩
      go_simp
      try with_reducible rfl
     try simp only [Act.put, zq1, zq2, zq3, zq4, zq5, zq6]
     refine tkx (i := 8) (v := ?_) hS ?_ ?_
     rotate_left
     ·rintro w' ⟨s0, s1, s2, s3, s4, s5, s6⟩
      go_simp
      try with_reducible rfl
     try simp only [Act.put, zq1, zq2, zq3, zq4, zq5, zq6]
     refine tkx (i := 9) (v := ?_) hS ?_ ?_
     rotate_left
     ·rintro w' ⟨s0, s1, s2, s3, s4, s5, s6⟩
      go_simp
      try with_reducible rfl
     try simp only [Act.put, zq1, zq2, zq3, zq4, zq5, zq6]
     refine tkx (i := 10) (v := ?_) hS ?_ ?_
     rotate_left
     ·rintro w' ⟨s0, s1, s2, s3, s4, s5, s6⟩
      go_simp
      try with_reducible rfl
     try simp only [Act.put, zq1, zq2, zq3, zq4, zq5, zq6]
     refine tkx (i := 12) (v := ?_) hS ?_ ?_
     rotate_left
     ·rintro w' ⟨s0, s1, s2, s3, s4, s5, s6⟩
      go_simp
      try with_reducible rfl
     try simp only [Act.put, zq1, zq2, zq3, zq4, zq5, zq6]
     refine tkx (i := 13) (v := ?_) hS ?_ ?_
     rotate_left
     ·rintro w' ⟨s0, s1, s2, s3, s4, s5, s6⟩
      go_simp
      try with_reducible rfl
     try simp only [Act.put, zq1, zq2, zq3, zq4, zq5, zq6]
     refine tkx (i := 14) (v := .int .i64 ((i + 1 : Nat) : Int)) hS ?_ ?_
     ·rintro w' ⟨s0, s1, s2, s3, s4, s5, s6⟩
      go_simp
      try with_reducible rfl
     try simp only [Act.put, zq1, zq2, zq3, zq4, zq5, zq6]
     refine tkx (i := 15) (v := ?_) hS ?_ ?_
     rotate_left
     ·rintro w' ⟨s0, s1, s2, s3, s4, s5, s6⟩
      go_simp
      try with_reducible rfl
     try simp only [Act.put, zq1, zq2, zq3, zq4, zq5, zq6]
     refine tkx (i := 16) (v := ?_) hS ?_ ?_
     rotate_left
     ·rintro w' ⟨s0, s1, s2, s3, s4, s5, s6⟩
      go_simp
      try with_reducible rfl
     try simp only [Act.put, zq1, zq2, zq3, zq4, zq5, zq6]
     refine anyX_g (i := 11) (by kernel_rfl) (by decide) rfl (by rfl) ?_
     intro K hK
     try simp only [zq1, zq2, zq3]
     refine wp_enterE #[.agg #[.int .i64 pk, .int .i64 pn, .slice uA un ucc], .bool false] Tryz.func19 (by kernel_rfl) (by kernel_rfl) ?_ (HMK1.out wr.drew HBW.out.drew) ?_
     ·go_simp
     rintro e w1 ⟨v2, rfl, hh2, ht2, hb2⟩
     refine ⟨_, rfl, ?_⟩
     obtain ⟨k2, lo2, hi2, wt2, nm2, A2, n2, c2, rfl⟩ := hh2.lit6'
     have hb2' : Below wr.heap.size wr w1 := hb1z.trans hb2
     have hS1 : (fun w' : World => w'.cell? ⟨g, o + i * 3, none⟩ = some (.int .i64 pk) /\ w'.cell? ⟨g, o + i * 3 + 1, none⟩ = some (.int .i64 pn) /\ w'.cell? ⟨g, o + i * 3 + 2, none⟩ = some (.slice uA un ucc) /\ w'.cell? ⟨g, o + (i + 1) * 3, none⟩ = some (.int .i64 qk) /\ w'.cell? ⟨g, o + (i + 1) * 3 + 1, none⟩ = some (.int .i64 qn) /\ w'.cell? ⟨g, o + (i + 1) * 3 + 2, none⟩ = some (.slice vA vn vcc) /\ w'.cell? ⟨H, 1, none⟩ = some (.slice rA j rc)) w1 := ⟨bel_c hb2' hSo.1, bel_c hb2' hSo.2.1, bel_c hb2' hSo.2.2.1, bel_c hb2' hSo.2.2.2.1, bel_c hb2' hSo.2.2.2.2.1, bel_c hb2' hSo.2.2.2.2.2.1, bel_c hb2' hSo.2.2.2.2.2.2⟩
     refine hK _ _ hS1 ?_
     clear hK
     try simp only [Act.put, zq1, zq2, zq3, zq4, zq5, zq6]
     refine anyX_g (i := 17) (by kernel_rfl) (by decide) rfl (by rfl) ?_
     intro K hK
     try simp only [zq1, zq2, zq3]
     refine wp_enterE #[.agg #[.int .i64 qk, .int .i64 qn, .slice vA vn vcc], .bool true] Tryz.func19 (by kernel_rfl) (by kernel_rfl) ?_ (HMK2.out w1 (HBW.out.trans (hb2'.mono HBW.out.size))) ?_
     ·go_simp
     rintro e w3 ⟨v3, rfl, hh3, ht3, hb3⟩
     refine ⟨_, rfl, ?_⟩
     obtain ⟨k3, lo3, hi3, wt3, nm3, A3, n3, c3, rfl⟩ := hh3.lit6'
     have hS3 : (fun w' : World => w'.cell? ⟨g, o + i * 3, none⟩ = some (.int .i64 pk) /\ w'.cell? ⟨g, o + i * 3 + 1, none⟩ = some (.int .i64 pn) /\ w'.cell? ⟨g, o + i * 3 + 2, none⟩ = some (.slice uA un ucc) /\ w'.cell? ⟨g, o + (i + 1) * 3, none⟩ = some (.int .i64 qk) /\ w'.cell? ⟨g, o + (i + 1) * 3 + 1, none⟩ = some (.int .i64 qn) /\ w'.cell? ⟨g, o + (i + 1) * 3 + 2, none⟩ = some (.slice vA vn vcc) /\ w'.cell? ⟨H, 1, none⟩ = some (.slice rA j rc)) w3 := ⟨bel_c hb3 hS1.1, bel_c hb3 hS1.2.1, bel_c hb3 hS1.2.2.1, bel_c hb3 hS1.2.2.2.1, bel_c hb3 hS1.2.2.2.2.1, bel_c hb3 hS1.2.2.2.2.2.1, bel_c hb3 hS1.2.2.2.2.2.2⟩
     refine hK _ _ hS3 ?_
     clear hK
     try simp only [Act.put, zq1, zq2, zq3, zq4, zq5, zq6]
     refine tkx (i := 18) (v := ?_) hS3 ?_ ?_
     rotate_left
     ·rintro w' ⟨s0, s1, s2, s3, s4, s5, s6⟩
      go_simp
      try with_reducible rfl
     try simp only [Act.put, zq1, zq2, zq3, zq4, zq5, zq6]
     refine anyX_g (i := 19) (by kernel_rfl) (by decide) rfl (by rfl) ?_
     intro K hK
     try simp only [zq1, zq2, zq3]
     go_simp
     have hba : Below w3.heap.size w3 (w3.alloc (.cells #[.int .i64 ((N : Int) % 3), .int .i64 ((N : Int) / 3 % 20), .int .i64 k2, .int .i64 lo2, .int .i64 hi2, .int .i64 wt2, .string nm2, .slice A2 n2 c2, .int .i64 k3, .int .i64 lo3, .int .i64 hi3, .int .i64 wt3, .string nm3, .slice A3 n3 c3] 56)) := (Below.refl _ _).alloc (Nat.le_refl _) _
     have hS4 : (fun w' : World => w'.cell? ⟨g, o + i * 3, none⟩ = some (.int .i64 pk) /\ w'.cell? ⟨g, o + i * 3 + 1, none⟩ = some (.int .i64 pn) /\ w'.cell? ⟨g, o + i * 3 + 2, none⟩ = some (.slice uA un ucc) /\ w'.cell? ⟨g, o + (i + 1) * 3, none⟩ = some (.int .i64 qk) /\ w'.cell? ⟨g, o + (i + 1) * 3 + 1, none⟩ = some (.int .i64 qn) /\ w'.cell? ⟨g, o + (i + 1) * 3 + 2, none⟩ = some (.slice vA vn vcc) /\ w'.cell? ⟨H, 1, none⟩ = some (.slice rA j rc)) (w3.alloc (.cells #[.int .i64 ((N : Int) % 3), .int .i64 ((N : Int) / 3 % 20), .int .i64 k2, .int .i64 lo2, .int .i64 hi2, .int .i64 wt2, .string nm2, .slice A2 n2 c2, .int .i64 k3, .int .i64 lo3, .int .i64 hi3, .int .i64 wt3, .string nm3, .slice A3 n3 c3] 56)) := ⟨bel_c hba hS3.1, bel_c hba hS3.2.1, bel_c hba hS3.2.2.1, bel_c hba hS3.2.2.2.1, bel_c hba hS3.2.2.2.2.1, bel_c hba hS3.2.2.2.2.2.1, bel_c hba hS3.2.2.2.2.2.2⟩
     refine hK _ _ hS4 ?_
     clear hK
     try simp only [Act.put, zq1, zq2, zq3, zq4, zq5, zq6]
     refine anyX_g (i := 20) (by kernel_rfl) (by decide) rfl (by rfl) ?_
     intro K hK
     try simp only [zq1, zq2, zq3]
     have hb13 : Below wr.heap.size wr w3 := hb2'.trans (hb3.mono hb2'.size)
     obtain ⟨cs, hrow, hrr⟩ := HRO.out
     rw [List.length_map, rulesUp_len] at hrow
     have hrow3 := World.ownsRow.kept hrow (only_of_below hb13 none) (none_or _)
     have hHw : H < wr.heap.size := HF.out.lt
     refine wp_pushK rfl (.tmp 37) (.tmp 55) 26 56 rfl 14 160 _ Tryz.underlying26 info_rule rfl (by omega) (by omega) (H + 1) (.slice rA j rc) j (cs.flatMap RCell.enc) (by rfl) (World.ownsRow.alloc hrow3 _) w3.heap.size (by rfl) #[.int .i64 ((N : Int) % 3), .int .i64 ((N : Int) / 3 % 20), .int .i64 k2, .int .i64 lo2, .int .i64 hi2, .int .i64 wt2, .string nm2, .slice A2 n2 c2, .int .i64 k3, .int .i64 lo3, .int .i64 hi3, .int .i64 wt3, .string nm3, .slice A3 n3 c3] rfl (Blk.new w3 _ _) (by simp [Value.oneCell']) (by omega) (by have := hb13.size; simp; omega) ?_
     intro g2 cap w5 hown5 hgr5 hat5
     have hlm : ((rulesUp l ns j).map RuleP.tree).length = j := by rw [List.length_map, rulesUp_len]
     have hx : RuleR w3 (fun b => wr.heap.size <= b) ⟨((N : Int) % 3), ((N : Int) / 3 % 20), k2, lo2, hi2, wt2, nm2, A2, n2, c2, k3, lo3, hi3, wt3, nm3, A3, n3, c3⟩ (ruleOf l ns j).tree := by rw [HRU.out]; exact ⟨by show ((N : Int) % 3) = ((N % 3 : Nat) : Int); omega, by show ((N : Int) / 3 % 20) = ((N / 3 % 20 : Nat) : Int); omega, ht2.bel (fun b hb => hb) hb3, ht3.keep (fun b hb => Nat.le_trans hb2'.size hb) (fun _ _ _ _ h => h)⟩
     have hp := RulesOwn.push (b := 0) (x := ⟨((N : Int) % 3), ((N : Int) / 3 % 20), k2, lo2, hi2, wt2, nm2, A2, n2, c2, k3, lo3, hi3, wt3, nm3, A3, n3, c3⟩) (d := (ruleOf l ns j).tree) hrr (by omega) (fun q e => (own_below hrow q e).2) (by omega) (only_of_below hb13 _) (.cells #[.int .i64 ((N : Int) % 3), .int .i64 ((N : Int) / 3 % 20), .int .i64 k2, .int .i64 lo2, .int .i64 hi2, .int .i64 wt2, .string nm2, .slice A2 n2 c2, .int .i64 k3, .int .i64 lo3, .int .i64 hi3, .int .i64 wt3, .string nm3, .slice A3 n3 c3] 56) hgr5 hat5 (by rw [hlm]; exact hown5) hx
     rw [hlm] at hp
     have hnx' : (rulesUp l ns (j + 1)).map RuleP.tree = (rulesUp l ns j).map RuleP.tree ++ [(ruleOf l ns j).tree] := by rw [rulesUp_next, List.map_append]; rfl
     rw [<- hnx'] at hp
     have hrH : ∀ q, (Value.slice rA j rc).ownBlock = some q -> H + 1 <= q := fun q e => (own_below hrow q e).1
     have hF4 := Blk.alloc (Blk.below HF.out hb13 hHw) (.cells #[.int .i64 ((N : Int) % 3), .int .i64 ((N : Int) / 3 % 20), .int .i64 k2, .int .i64 lo2, .int .i64 hi2, .int .i64 wt2, .string nm2, .slice A2 n2 c2, .int .i64 k3, .int .i64 lo3, .int .i64 hi3, .int .i64 wt3, .string nm3, .slice A3 n3 c3] 56)
     have hF5 := Blk.grown hF4 hgr5 (fun e => by have := hrH H e.symm; omega)
     have hbH : Below H W1 w5 := below_own (HB.out.trans ((hb13.mono (Nat.le_of_lt hHw)).trans (hba.mono (Nat.le_trans (Nat.le_of_lt hHw) hb13.size)))) hgr5 (by have := hb13.size; simp; omega) (fun q e => by have := hrH q e; omega)
     have hw5 : Below w.heap.size w w5 := HB1.out.trans (by have := hbH; rw [<- HHE.out] at this; exact this.mono HB1.out.size)
     have hHW : w.heap.size <= H := by rw [<- HHE.out]; exact HB1.out.size
     have hg0 : g < w.heap.size := HG0.out
     have hlt5 : ∀ q x, wr.cell? ⟨g, q, none⟩ = some x -> w5.cell? ⟨g, q, none⟩ = some x := fun q x hx => by rw [hw5.cell (p := ⟨g, q, none⟩) hg0]; rw [HBW.out.cell (p := ⟨g, q, none⟩) hg0] at hx; exact hx
     have hS5 : (fun w' : World => w'.cell? ⟨g, o + i * 3, none⟩ = some (.int .i64 pk) /\ w'.cell? ⟨g, o + i * 3 + 1, none⟩ = some (.int .i64 pn) /\ w'.cell? ⟨g, o + i * 3 + 2, none⟩ = some (.slice uA un ucc) /\ w'.cell? ⟨g, o + (i + 1) * 3, none⟩ = some (.int .i64 qk) /\ w'.cell? ⟨g, o + (i + 1) * 3 + 1, none⟩ = some (.int .i64 qn) /\ w'.cell? ⟨g, o + (i + 1) * 3 + 2, none⟩ = some (.slice vA vn vcc) /\ w'.cell? ⟨H, 1, none⟩ = some (.slice rA j rc)) w5 := ⟨hlt5 _ _ hSo.1, hlt5 _ _ hSo.2.1, hlt5 _ _ hSo.2.2.1, hlt5 _ _ hSo.2.2.2.1, hlt5 _ _ hSo.2.2.2.2.1, hlt5 _ _ hSo.2.2.2.2.2.1, Blk.cell hF5 1⟩
     have hcap := own_cap hown5
     have hcapm := own_capm hown5
     refine hK _ _ hS5 ?_
     clear hK
     try simp only [Act.put, zq1, zq2, zq3, zq4, zq5, zq6]
     refine tkx (i := 21) (v := ?_) hS5 ?_ ?_
     rotate_left
     ·rintro w' ⟨s0, s1, s2, s3, s4, s5, s6⟩
      go_simp
      try with_reducible rfl
     try simp only [Act.put, zq1, zq2, zq3, zq4, zq5, zq6]
     have cc1 := Blk.cell hF5 1; have fr5 := Blk.frozen hF5 1
     simp only [List.getElem?_toArray, List.getElem?_cons_zero, List.getElem?_cons_succ] at cc1
     have hF6 : Blk (w5.setCell ⟨H, 1, none⟩ (.slice (some ⟨g2, 0, none⟩) (j + 1) cap)) H 28 #[.slice UA n uc, .slice (some ⟨g2, 0, none⟩) (j + 1) cap] := by have := Blk.set_ hF5 1 (.slice (some ⟨g2, 0, none⟩) (j + 1) cap); simpa using this
     have HP := Lib.hid (hp.far (q := ⟨H, 1, none⟩) (Nat.lt_succ_self H) (.slice (some ⟨g2, 0, none⟩) (j + 1) cap)); have HF6 := Lib.hid hF6; have HB6 := Lib.hid (hbH.setCell (p := ⟨H, 1, none⟩) (Nat.le_refl H) (.slice (some ⟨g2, 0, none⟩) (j + 1) cap))
     have HJ1 := Lib.hid (show 2 * (j + 1) <= ll \/ j + 1 = 0 by have := HIE.out; omega)
     have hj3 : j + 1 <= 4 := by have := HIE.out; omega
     have hj5 : 2 * (j + 1) <= ll + 1 := by have := HIE.out; omega
     have hi2 : (i : Int) + 2 = ((2 * (j + 1) : Nat) : Int) := by have := HIE.out; omega
     have HI2 := Lib.hid hi2
     clear hi2 hS5 hS4 hS3 hS1 hS hSo hlt5 hw5 hHW hbH hF5 hF4 hrH hnx' hp hx hlm hown5 hgr5 hat5 hHw hrow3 hrow hrr hb13 hba hb2' hb2 hb3 ht2 ht3 hh2 hh3 hF6 hb1z XX HMK1 HMK2 HRU HBW HNE HQ2 hq2 HRO HF HB ts te3 teq te20 b0 b1
     refine anyX_last (by kernel_rfl) (by kernel_rfl) rfl rfl ?_
     try simp only [zq1, zq2, zq3]
     go_simp
     try apply_assumption
     go_wp2_with fail
     go_roundg (5 - (j + 1))
     case measure => have := HGK.out; omega
     case rel => exact ⟨j + 1, cap, some ⟨g2, 0, none⟩, by rw [<- HI2.out], rfl, hj3, hj5, hcap, hcapm, HJ1, HB6, HF6, HP⟩
    ·have hNi : N = i := by have h1 := HNE.out; unfold ruleN at h1; rw [List.getElem?_eq_none (by rw [HNN.out]; omega)] at h1; have h2 : 2 * j = N := h1; have := HIE.out; omega
     have jn : ¬ (j : Int) < (nn : Int) := by omega
     have hNiI : (i : Int) = (N : Int) := by omega
     have HNI := Lib.hid hNi
     clear hNi hNiI HNC
     go_wp2_with fail
     obtain rfl := HNI.out.symm
     have ts : IntKind.i64.wrap ((i : Int) + 1) = (i : Int) + 1 := IntWalk.i64_in _ (by omega)
     have te3 : (i : Int).tmod 3 = (i : Int) % 3 := Int.tmod_eq_emod_of_nonneg n0
     have teq : IntKind.i64.wrap ((i : Int) / 3) = (i : Int) / 3 := IntWalk.i64_in _ (by omega)
     have te20 : ((i : Int) / 3).tmod 20 = (i : Int) / 3 % 20 := Int.tmod_eq_emod_of_nonneg (by omega)
     have hin1 : i < ll := by omega
     have hin2 : (0 : Int) <= (i : Int) + 1 := by omega
     have hin3 : (i : Int) < (ll : Int) := by omega
     have hSo := XX.out
     refine region_x 22 (fun w' : World => w'.cell? ⟨g, o + i * 3, none⟩ = some (.int .i64 pk) /\ w'.cell? ⟨g, o + i * 3 + 1, none⟩ = some (.int .i64 pn) /\ w'.cell? ⟨g, o + i * 3 + 2, none⟩ = some (.slice uA un ucc) /\ w'.cell? ⟨g, o + (i + 1) * 3, none⟩ = some (.int .i64 qk) /\ w'.cell? ⟨g, o + (i + 1) * 3 + 1, none⟩ = some (.int .i64 qn) /\ w'.cell? ⟨g, o + (i + 1) * 3 + 2, none⟩ = some (.slice vA vn vcc) /\ w'.cell? ⟨H, 1, none⟩ = some (.slice rA j rc)) (by kernel_rfl) ?_
     have hS : (fun w' : World => w'.cell? ⟨g, o + i * 3, none⟩ = some (.int .i64 pk) /\ w'.cell? ⟨g, o + i * 3 + 1, none⟩ = some (.int .i64 pn) /\ w'.cell? ⟨g, o + i * 3 + 2, none⟩ = some (.slice uA un ucc) /\ w'.cell? ⟨g, o + (i + 1) * 3, none⟩ = some (.int .i64 qk) /\ w'.cell? ⟨g, o + (i + 1) * 3 + 1, none⟩ = some (.int .i64 qn) /\ w'.cell? ⟨g, o + (i + 1) * 3 + 2, none⟩ = some (.slice vA vn vcc) /\ w'.cell? ⟨H, 1, none⟩ = some (.slice rA j rc)) wr.drew := hSo
     refine tkx (i := 0) (v := ?_) hS ?_ ?_
     rotate_left
     ·rintro w' ⟨s0, s1, s2, s3, s4, s5, s6⟩
      go_simp
      try with_reducible rfl
     try simp only [Act.put, zq1, zq2, zq3, zq4, zq5, zq6]
     refine tkx (i := 1) (v := ?_) hS ?_ ?_
     rotate_left
     ·rintro w' ⟨s0, s1, s2, s3, s4, s5, s6⟩
      go_simp
      try with_reducible rfl
     try simp only [Act.put, zq1, zq2, zq3, zq4, zq5, zq6]
     refine tkx (i := 2) (v := ?_) hS ?_ ?_
     rotate_left
     ·rintro w' ⟨s0, s1, s2, s3, s4, s5, s6⟩
      go_simp
      try with_reducible rfl
     try simp only [Act.put, zq1, zq2, zq3, zq4, zq5, zq6]
     refine tkx (i := 3) (v := .int .i64 ((i : Int) % 3)) hS ?_ ?_
     ·rintro w' ⟨s0, s1, s2, s3, s4, s5, s6⟩
      go_simp
      try with_reducible rfl
     try simp only [Act.put, zq1, zq2, zq3, zq4, zq5, zq6]
     refine tkx (i := 4) (v := ?_) hS ?_ ?_
     rotate_left
     ·rintro w' ⟨s0, s1, s2, s3, s4, s5, s6⟩
      go_simp
      try with_reducible rfl
     try simp only [Act.put, zq1, zq2, zq3, zq4, zq5, zq6]
     refine tkx (i := 5) (v := .int .i64 ((i : Int) / 3)) hS ?_ ?_
     ·rintro w' ⟨s0, s1, s2, s3, s4, s5, s6⟩
      go_simp
      try with_reducible rfl
     try simp only [Act.put, zq1, zq2, zq3, zq4, zq5, zq6]
     refine tkx (i := 6) (v := .int .i64 ((i : Int) / 3 % 20)) hS ?_ ?_
     ·rintro w' ⟨s0, s1, s2, s3, s4, s5, s6⟩
      go_simp
      try with_reducible rfl
     try simp only [Act.put, zq1, zq2, zq3, zq4, zq5, zq6]
     refine tkx (i := 7) (v := ?_) hS ?_ ?_
     rotate_left
     ·rintro w' ⟨s0, s1, s2, s3, s4, s5, s6⟩
      go_simp
      try with_reducible rfl
     try simp only [Act.put, zq1, zq2, zq3, zq4, zq5, zq6]
     refine tkx (i := 8) (v := ?_) hS ?_ ?_
     rotate_left
     ·rintro w' ⟨s0, s1, s2, s3, s4, s5, s6⟩
      go_simp
      try with_reducible rfl
     try simp only [Act.put, zq1, zq2, zq3, zq4, zq5, zq6]
     refine tkx (i := 9) (v := ?_) hS ?_ ?_
     rotate_left
     ·rintro w' ⟨s0, s1, s2, s3, s4, s5, s6⟩
      go_simp
      try with_reducible rfl
     try simp only [Act.put, zq1, zq2, zq3, zq4, zq5, zq6]
     refine tkx (i := 10) (v := ?_) hS ?_ ?_
     rotate_left
     ·rintro w' ⟨s0, s1, s2, s3, s4, s5, s6⟩
      go_simp
      try with_reducible rfl
     try simp only [Act.put, zq1, zq2, zq3, zq4, zq5, zq6]
     refine tkx (i := 12) (v := ?_) hS ?_ ?_
     rotate_left
     ·rintro w' ⟨s0, s1, s2, s3, s4, s5, s6⟩
      go_simp
      try with_reducible rfl
     try simp only [Act.put, zq1, zq2, zq3, zq4, zq5, zq6]
     refine tkx (i := 13) (v := ?_) hS ?_ ?_
     rotate_left
     ·rintro w' ⟨s0, s1, s2, s3, s4, s5, s6⟩
      go_simp
      try with_reducible rfl
     try simp only [Act.put, zq1, zq2, zq3, zq4, zq5, zq6]
     refine tkx (i := 14) (v := .int .i64 ((i + 1 : Nat) : Int)) hS ?_ ?_
     ·rintro w' ⟨s0, s1, s2, s3, s4, s5, s6⟩
      go_simp
      try with_reducible rfl
     try simp only [Act.put, zq1, zq2, zq3, zq4, zq5, zq6]
     refine tkx (i := 15) (v := ?_) hS ?_ ?_
     rotate_left
     ·rintro w' ⟨s0, s1, s2, s3, s4, s5, s6⟩
      go_simp
      try with_reducible rfl
     try simp only [Act.put, zq1, zq2, zq3, zq4, zq5, zq6]
     refine tkx (i := 16) (v := ?_) hS ?_ ?_
     rotate_left
     ·rintro w' ⟨s0, s1, s2, s3, s4, s5, s6⟩
      go_simp
      try with_reducible rfl
     try simp only [Act.put, zq1, zq2, zq3, zq4, zq5, zq6]
     refine anyX_g (i := 11) (by kernel_rfl) (by decide) rfl (by rfl) ?_
     intro K hK
     try simp only [zq1, zq2, zq3]
     refine wp_enterE #[.agg #[.int .i64 pk, .int .i64 pn, .slice uA un ucc], .bool false] Tryz.func19 (by kernel_rfl) (by kernel_rfl) ?_ (HMK1.out wr.drew HBW.out.drew) ?_
     ·go_simp
     rintro e w1 ⟨v2, rfl, hh2, ht2, hb2⟩
     refine ⟨_, rfl, ?_⟩
     obtain ⟨k2, lo2, hi2, wt2, nm2, A2, n2, c2, rfl⟩ := hh2.lit6'
     have hb2' : Below wr.heap.size wr w1 := hb1z.trans hb2
     have hS1 : (fun w' : World => w'.cell? ⟨g, o + i * 3, none⟩ = some (.int .i64 pk) /\ w'.cell? ⟨g, o + i * 3 + 1, none⟩ = some (.int .i64 pn) /\ w'.cell? ⟨g, o + i * 3 + 2, none⟩ = some (.slice uA un ucc) /\ w'.cell? ⟨g, o + (i + 1) * 3, none⟩ = some (.int .i64 qk) /\ w'.cell? ⟨g, o + (i + 1) * 3 + 1, none⟩ = some (.int .i64 qn) /\ w'.cell? ⟨g, o + (i + 1) * 3 + 2, none⟩ = some (.slice vA vn vcc) /\ w'.cell? ⟨H, 1, none⟩ = some (.slice rA j rc)) w1 := ⟨bel_c hb2' hSo.1, bel_c hb2' hSo.2.1, bel_c hb2' hSo.2.2.1, bel_c hb2' hSo.2.2.2.1, bel_c hb2' hSo.2.2.2.2.1, bel_c hb2' hSo.2.2.2.2.2.1, bel_c hb2' hSo.2.2.2.2.2.2⟩
     refine hK _ _ hS1 ?_
     clear hK
     try simp only [Act.put, zq1, zq2, zq3, zq4, zq5, zq6]
     refine anyX_g (i := 17) (by kernel_rfl) (by decide) rfl (by rfl) ?_
     intro K hK
     try simp only [zq1, zq2, zq3]
     refine wp_enterE #[.agg #[.int .i64 qk, .int .i64 qn, .slice vA vn vcc], .bool true] Tryz.func19 (by kernel_rfl) (by kernel_rfl) ?_ (HMK2.out w1 (HBW.out.trans (hb2'.mono HBW.out.size))) ?_
     ·go_simp
     rintro e w3 ⟨v3, rfl, hh3, ht3, hb3⟩
     refine ⟨_, rfl, ?_⟩
     obtain ⟨k3, lo3, hi3, wt3, nm3, A3, n3, c3, rfl⟩ := hh3.lit6'
     have hS3 : (fun w' : World => w'.cell? ⟨g, o + i * 3, none⟩ = some (.int .i64 pk) /\ w'.cell? ⟨g, o + i * 3 + 1, none⟩ = some (.int .i64 pn) /\ w'.cell? ⟨g, o + i * 3 + 2, none⟩ = some (.slice uA un ucc) /\ w'.cell? ⟨g, o + (i + 1) * 3, none⟩ = some (.int .i64 qk) /\ w'.cell? ⟨g, o + (i + 1) * 3 + 1, none⟩ = some (.int .i64 qn) /\ w'.cell? ⟨g, o + (i + 1) * 3 + 2, none⟩ = some (.slice vA vn vcc) /\ w'.cell? ⟨H, 1, none⟩ = some (.slice rA j rc)) w3 := ⟨bel_c hb3 hS1.1, bel_c hb3 hS1.2.1, bel_c hb3 hS1.2.2.1, bel_c hb3 hS1.2.2.2.1, bel_c hb3 hS1.2.2.2.2.1, bel_c hb3 hS1.2.2.2.2.2.1, bel_c hb3 hS1.2.2.2.2.2.2⟩
     refine hK _ _ hS3 ?_
     clear hK
     try simp only [Act.put, zq1, zq2, zq3, zq4, zq5, zq6]
     refine tkx (i := 18) (v := ?_) hS3 ?_ ?_
     rotate_left
     ·rintro w' ⟨s0, s1, s2, s3, s4, s5, s6⟩
      go_simp
      try with_reducible rfl
     try simp only [Act.put, zq1, zq2, zq3, zq4, zq5, zq6]
     refine anyX_g (i := 19) (by kernel_rfl) (by decide) rfl (by rfl) ?_
     intro K hK
     try simp only [zq1, zq2, zq3]
     go_simp
     have hba : Below w3.heap.size w3 (w3.alloc (.cells #[.int .i64 ((i : Int) % 3), .int .i64 ((i : Int) / 3 % 20), .int .i64 k2, .int .i64 lo2, .int .i64 hi2, .int .i64 wt2, .string nm2, .slice A2 n2 c2, .int .i64 k3, .int .i64 lo3, .int .i64 hi3, .int .i64 wt3, .string nm3, .slice A3 n3 c3] 56)) := (Below.refl _ _).alloc (Nat.le_refl _) _
     have hS4 : (fun w' : World => w'.cell? ⟨g, o + i * 3, none⟩ = some (.int .i64 pk) /\ w'.cell? ⟨g, o + i * 3 + 1, none⟩ = some (.int .i64 pn) /\ w'.cell? ⟨g, o + i * 3 + 2, none⟩ = some (.slice uA un ucc) /\ w'.cell? ⟨g, o + (i + 1) * 3, none⟩ = some (.int .i64 qk) /\ w'.cell? ⟨g, o + (i + 1) * 3 + 1, none⟩ = some (.int .i64 qn) /\ w'.cell? ⟨g, o + (i + 1) * 3 + 2, none⟩ = some (.slice vA vn vcc) /\ w'.cell? ⟨H, 1, none⟩ = some (.slice rA j rc)) (w3.alloc (.cells #[.int .i64 ((i : Int) % 3), .int .i64 ((i : Int) / 3 % 20), .int .i64 k2, .int .i64 lo2, .int .i64 hi2, .int .i64 wt2, .string nm2, .slice A2 n2 c2, .int .i64 k3, .int .i64 lo3, .int .i64 hi3, .int .i64 wt3, .string nm3, .slice A3 n3 c3] 56)) := ⟨bel_c hba hS3.1, bel_c hba hS3.2.1, bel_c hba hS3.2.2.1, bel_c hba hS3.2.2.2.1, bel_c hba hS3.2.2.2.2.1, bel_c hba hS3.2.2.2.2.2.1, bel_c hba hS3.2.2.2.2.2.2⟩
     refine hK _ _ hS4 ?_
     clear hK
     try simp only [Act.put, zq1, zq2, zq3, zq4, zq5, zq6]
     refine anyX_g (i := 20) (by kernel_rfl) (by decide) rfl (by rfl) ?_
     intro K hK
     try simp only [zq1, zq2, zq3]
     have hb13 : Below wr.heap.size wr w3 := hb2'.trans (hb3.mono hb2'.size)
     obtain ⟨cs, hrow, hrr⟩ := HRO.out
     rw [List.length_map, rulesUp_len] at hrow
     have hrow3 := World.ownsRow.kept hrow (only_of_below hb13 none) (none_or _)
     have hHw : H < wr.heap.size := HF.out.lt
     refine wp_pushK rfl (.tmp 37) (.tmp 55) 26 56 rfl 14 160 _ Tryz.underlying26 info_rule rfl (by omega) (by omega) (H + 1) (.slice rA j rc) j (cs.flatMap RCell.enc) (by rfl) (World.ownsRow.alloc hrow3 _) w3.heap.size (by rfl) #[.int .i64 ((i : Int) % 3), .int .i64 ((i : Int) / 3 % 20), .int .i64 k2, .int .i64 lo2, .int .i64 hi2, .int .i64 wt2, .string nm2, .slice A2 n2 c2, .int .i64 k3, .int .i64 lo3, .int .i64 hi3, .int .i64 wt3, .string nm3, .slice A3 n3 c3] rfl (Blk.new w3 _ _) (by simp [Value.oneCell']) (by omega) (by have := hb13.size; simp; omega) ?_
     intro g2 cap w5 hown5 hgr5 hat5
     have hlm : ((rulesUp l ns j).map RuleP.tree).length = j := by rw [List.length_map, rulesUp_len]
     have hx : RuleR w3 (fun b => wr.heap.size <= b) ⟨((i : Int) % 3), ((i : Int) / 3 % 20), k2, lo2, hi2, wt2, nm2, A2, n2, c2, k3, lo3, hi3, wt3, nm3, A3, n3, c3⟩ (ruleOf l ns j).tree := by rw [HRU.out]; exact ⟨by show ((i : Int) % 3) = ((i % 3 : Nat) : Int); omega, by show ((i : Int) / 3 % 20) = ((i / 3 % 20 : Nat) : Int); omega, ht2.bel (fun b hb => hb) hb3, ht3.keep (fun b hb => Nat.le_trans hb2'.size hb) (fun _ _ _ _ h => h)⟩
     have hp := RulesOwn.push (b := 0) (x := ⟨((i : Int) % 3), ((i : Int) / 3 % 20), k2, lo2, hi2, wt2, nm2, A2, n2, c2, k3, lo3, hi3, wt3, nm3, A3, n3, c3⟩) (d := (ruleOf l ns j).tree) hrr (by omega) (fun q e => (own_below hrow q e).2) (by omega) (only_of_below hb13 _) (.cells #[.int .i64 ((i : Int) % 3), .int .i64 ((i : Int) / 3 % 20), .int .i64 k2, .int .i64 lo2, .int .i64 hi2, .int .i64 wt2, .string nm2, .slice A2 n2 c2, .int .i64 k3, .int .i64 lo3, .int .i64 hi3, .int .i64 wt3, .string nm3, .slice A3 n3 c3] 56) hgr5 hat5 (by rw [hlm]; exact hown5) hx
     rw [hlm] at hp
     have hnx' : (rulesUp l ns (j + 1)).map RuleP.tree = (rulesUp l ns j).map RuleP.tree ++ [(ruleOf l ns j).tree] := by rw [rulesUp_next, List.map_append]; rfl
     rw [<- hnx'] at hp
     have hrH : ∀ q, (Value.slice rA j rc).ownBlock = some q -> H + 1 <= q := fun q e => (own_below hrow q e).1
     have hF4 := Blk.alloc (Blk.below HF.out hb13 hHw) (.cells #[.int .i64 ((i : Int) % 3), .int .i64 ((i : Int) / 3 % 20), .int .i64 k2, .int .i64 lo2, .int .i64 hi2, .int .i64 wt2, .string nm2, .slice A2 n2 c2, .int .i64 k3, .int .i64 lo3, .int .i64 hi3, .int .i64 wt3, .string nm3, .slice A3 n3 c3] 56)
     have hF5 := Blk.grown hF4 hgr5 (fun e => by have := hrH H e.symm; omega)
     have hbH : Below H W1 w5 := below_own (HB.out.trans ((hb13.mono (Nat.le_of_lt hHw)).trans (hba.mono (Nat.le_trans (Nat.le_of_lt hHw) hb13.size)))) hgr5 (by have := hb13.size; simp; omega) (fun q e => by have := hrH q e; omega)
     have hw5 : Below w.heap.size w w5 := HB1.out.trans (by have := hbH; rw [<- HHE.out] at this; exact this.mono HB1.out.size)
     have hHW : w.heap.size <= H := by rw [<- HHE.out]; exact HB1.out.size
     have hg0 : g < w.heap.size := HG0.out
     have hlt5 : ∀ q x, wr.cell? ⟨g, q, none⟩ = some x -> w5.cell? ⟨g, q, none⟩ = some x := fun q x hx => by rw [hw5.cell (p := ⟨g, q, none⟩) hg0]; rw [HBW.out.cell (p := ⟨g, q, none⟩) hg0] at hx; exact hx
     have hS5 : (fun w' : World => w'.cell? ⟨g, o + i * 3, none⟩ = some (.int .i64 pk) /\ w'.cell? ⟨g, o + i * 3 + 1, none⟩ = some (.int .i64 pn) /\ w'.cell? ⟨g, o + i * 3 + 2, none⟩ = some (.slice uA un ucc) /\ w'.cell? ⟨g, o + (i + 1) * 3, none⟩ = some (.int .i64 qk) /\ w'.cell? ⟨g, o + (i + 1) * 3 + 1, none⟩ = some (.int .i64 qn) /\ w'.cell? ⟨g, o + (i + 1) * 3 + 2, none⟩ = some (.slice vA vn vcc) /\ w'.cell? ⟨H, 1, none⟩ = some (.slice rA j rc)) w5 := ⟨hlt5 _ _ hSo.1, hlt5 _ _ hSo.2.1, hlt5 _ _ hSo.2.2.1, hlt5 _ _ hSo.2.2.2.1, hlt5 _ _ hSo.2.2.2.2.1, hlt5 _ _ hSo.2.2.2.2.2.1, Blk.cell hF5 1⟩
     have hcap := own_cap hown5
     have hcapm := own_capm hown5
     refine hK _ _ hS5 ?_
     clear hK
     try simp only [Act.put, zq1, zq2, zq3, zq4, zq5, zq6]
     refine tkx (i := 21) (v := ?_) hS5 ?_ ?_
     rotate_left
     ·rintro w' ⟨s0, s1, s2, s3, s4, s5, s6⟩
      go_simp
      try with_reducible rfl
     try simp only [Act.put, zq1, zq2, zq3, zq4, zq5, zq6]
     have cc1 := Blk.cell hF5 1; have fr5 := Blk.frozen hF5 1
     simp only [List.getElem?_toArray, List.getElem?_cons_zero, List.getElem?_cons_succ] at cc1
     have hF6 : Blk (w5.setCell ⟨H, 1, none⟩ (.slice (some ⟨g2, 0, none⟩) (j + 1) cap)) H 28 #[.slice UA n uc, .slice (some ⟨g2, 0, none⟩) (j + 1) cap] := by have := Blk.set_ hF5 1 (.slice (some ⟨g2, 0, none⟩) (j + 1) cap); simpa using this
     have HP := Lib.hid (hp.far (q := ⟨H, 1, none⟩) (Nat.lt_succ_self H) (.slice (some ⟨g2, 0, none⟩) (j + 1) cap)); have HF6 := Lib.hid hF6; have HB6 := Lib.hid (hbH.setCell (p := ⟨H, 1, none⟩) (Nat.le_refl H) (.slice (some ⟨g2, 0, none⟩) (j + 1) cap))
     have HJ1 := Lib.hid (show 2 * (j + 1) <= ll \/ j + 1 = 0 by have := HIE.out; omega)
     have hj3 : j + 1 <= 4 := by have := HIE.out; omega
     have hj5 : 2 * (j + 1) <= ll + 1 := by have := HIE.out; omega
     have hi2 : (i : Int) + 2 = ((2 * (j + 1) : Nat) : Int) := by have := HIE.out; omega
     have HI2 := Lib.hid hi2
     clear hi2 hS5 hS4 hS3 hS1 hS hSo hlt5 hw5 hHW hbH hF5 hF4 hrH hnx' hp hx hlm hown5 hgr5 hat5 hHw hrow3 hrow hrr hb13 hba hb2' hb2 hb3 ht2 ht3 hh2 hh3 hF6 hb1z XX HMK1 HMK2 HRU HBW HNE HQ2 hq2 HRO HF HB ts te3 teq te20 b0 b1
     refine anyX_last (by kernel_rfl) (by kernel_rfl) rfl rfl ?_
     try simp only [zq1, zq2, zq3]
     go_simp
     try apply_assumption
     go_wp2_with fail
     go_roundg (5 - (j + 1))
     case measure => have := HGK.out; omega
     case rel => exact ⟨j + 1, cap, some ⟨g2, 0, none⟩, by rw [<- HI2.out], rfl, hj3, hj5, hcap, hcapm, HJ1, HB6, HF6, HP⟩
   ·have hj : 2 * j <= l.length := by
     rw [HLL.out]
     rcases HJ0.out with h | h
     ·exact h
     ·subst h; omega
    have hdone := rulesUp_done l ns j hj4 hj (by rw [HLL.out]; omega)
    have hro := HRO.out
    rw [hdone] at hro
    have HRF := Lib.hid hro
    have b0 := Blk.cell HF.out 0; have b1 := Blk.cell HF.out 1
    simp only [List.getElem?_toArray, List.getElem?_cons_zero, List.getElem?_cons_succ] at b0 b1
    have hbz : Below W1.heap.size W1 wr := by rw [HHE.out]; exact HB.out
    have hrr := Blk.below HR1.out hbz HR1.out.lt
    have r0 := Blk.cell hrr 0; have r1 := Blk.cell hrr 1
    simp only [List.getElem?_toArray, List.getElem?_cons_zero, List.getElem?_cons_succ] at r0 r1
    have fr := fun q => Blk.frozen hrr q
    have hz1 : w.heap.size < W0.heap.size := HZ0.out
    have HDO := Lib.hid (HOWN.out.belB (H := 0) hbz)
    have HBF := Lib.hid (HB1.out.trans (hbz.mono HB1.out.size))
    have hltR : w.heap.size < wr.heap.size := hrr.lt
    have HRH := Lib.hid (show w.heap.size < H by rw [<- HHE.out]; exact HR1.out.lt)
    clear hro hdone hbz hrr HRO HB HF HMK HGET HNC HGK
    by_cases hl1 : i + 1 < ll
    ·have hl8 : (8 : Int) <= (i : Int) := by omega
     have hl2 : (i : Int) + 1 < (ll : Int) := by omega
     obtain ⟨iv, hiv⟩ : ∃ iv : Int, (i : Int) = iv := ⟨_, rfl⟩
     rw [hiv] at hl8 hl2 i0 i8 ⊢
     have hd8 : decide (iv < 8) = false := by simp; omega
     clear hiv hl1
     go_wp2_with fail
     exact bodyPost_ret (v := .agg #[.slice UA n uc, .slice rA j rc]) (by simp [results, Tryz.results24, go_sem, r0, r1]) rfl ⟨_, _, rfl, ((HDO.out.far2 hz1).far2 hz1).more (Nat.le_of_lt hz1), (HRF.out.far2 HRH.out).far2 HRH.out |>.more (Nat.le_of_lt (Nat.lt_of_lt_of_le HRH.out (Nat.le_succ _))), (HBF.out.setCell (p := ⟨w.heap.size, 0, none⟩) (Nat.le_refl _) _).setCell (p := ⟨w.heap.size, 1, none⟩) (Nat.le_refl _) _⟩
    ·have hl2 : ¬ (i : Int) + 1 < (ll : Int) := by omega
     go_wp2_with fail
     exact bodyPost_ret (v := .agg #[.slice UA n uc, .slice rA j rc]) (by simp [results, Tryz.results24, go_sem, r0, r1]) rfl ⟨_, _, rfl, ((HDO.out.far2 hz1).far2 hz1).more (Nat.le_of_lt hz1), (HRF.out.far2 HRH.out).far2 HRH.out |>.more (Nat.le_of_lt (Nat.lt_of_lt_of_le HRH.out (Nat.le_succ _))), (HBF.out.setCell (p := ⟨w.heap.size, 0, none⟩) (Nat.le_refl _) _).setCell (p := ⟨w.heap.size, 1, none⟩) (Nat.le_refl _) _⟩
end Go.Proofs.YtalgnnidhnhciaaGreatDoor
set_option linter.unusedVariables false
set_option linter.unusedSimpArgs false
namespace Go.Proofs.YtalgnnidhnhciaaGreatDoor
open Go Go.RowKit Go.Proofs
theorem blk_second (w : World) (X Y : Array Value) (T : TypeId) : Blk ((w.alloc (.cells X T)).alloc (.cells Y T)).drew (w.heap.size + 1) T Y := by
 have h := Blk.new (w.alloc (.cells X T)) T Y
 have e : (w.alloc (.cells X T)).heap.size = w.heap.size + 1 := by simp
 rw [e] at h; exact h
theorem DefsAt.get {w : World} {S : Nat -> Prop} {v : Value} {defs : List DefP} (h : DefsAt w S v (defs.map DefP.tree)) : ∃ A c, v = .slice A defs.length c /\ defs.length <= c /\ c <= maxLen /\ ∀ i d, defs[i]? = some d -> ∃ g o, A = some ⟨g, o, none⟩ /\ ∃ (s : ByteArray) (k1 lo1 hi1 : Int) (s1 : ByteArray) (A1 : Option Addr) (n1 c1 : Nat), s.data.toList = d.name /\
  CellsAt w g (o + i * 6) [.string s, .int .i64 k1, .int .i64 lo1, .int .i64 hi1, .string s1, .slice A1 n1 c1] /\ TreeV false w S (.agg #[.int .i64 k1, .int .i64 lo1, .int .i64 hi1, .string s1, .slice A1 n1 c1]) d.c.tree := by
  obtain ⟨A, c, cs, e, h1, h2, h3, hrr, hcs⟩ := h
  rw [List.length_map] at e h1 h3
  refine ⟨A, c, e, h1, h2, fun i d hd => ?_⟩
  have hi : i < defs.length := (List.getElem?_eq_some_iff.1 hd).1
  have hde : defs[i] = d := by rw [List.getElem?_eq_getElem hi] at hd; injection hd
  obtain ⟨g, o, e⟩ := h3.some (by omega)
  have hlm : i < (defs.map DefP.tree).length := by rw [List.length_map]; exact hi
  have hic : i < cs.length := hrr.len_eq hlm
  have q1 := (hcs g o e i hic).2
  have q2 := hrr.at_ i hic hlm
  rw [List.getElem_map, hde] at q2
  exact ⟨g, o, e, cs[i].nm0, cs[i].k, cs[i].lo, cs[i].hi, cs[i].nm, cs[i].A, cs[i].n, cs[i].c, q2.1, q1, q2.2⟩
theorem RulesAt.get {w : World} {S : Nat -> Prop} {v : Value} {rules : List RuleP} (h : RulesAt w S v (rules.map RuleP.tree)) : ∃ A c, v = .slice A rules.length c /\ rules.length <= c /\ c <= maxLen /\ ∀ i d, rules[i]? = some d -> ∃ g o, A = some ⟨g, o, none⟩ /\ ∃ x : RCell, x.cat = d.tree.cat /\ x.cost = d.tree.cost /\
  CellsAt w g (o + i * 14) x.enc /\ TreeV true w S x.left d.left.tree /\ TreeV true w S x.right d.right.tree := by
  obtain ⟨A, c, cs, e, h1, h2, h3, hrr, hcs⟩ := h
  rw [List.length_map] at e h1 h3
  refine ⟨A, c, e, h1, h2, fun i d hd => ?_⟩
  have hi : i < rules.length := (List.getElem?_eq_some_iff.1 hd).1
  have hde : rules[i] = d := by rw [List.getElem?_eq_getElem hi] at hd; injection hd
  obtain ⟨g, o, e⟩ := h3.some (by omega)
  have hlm : i < (rules.map RuleP.tree).length := by rw [List.length_map]; exact hi
  have hic : i < cs.length := hrr.len_eq hlm
  have q1 := (hcs g o e i hic).2
  have q2 := hrr.at_ i hic hlm
  rw [List.getElem_map, hde] at q2
  exact ⟨g, o, e, cs[i], q2.1, q2.2.1, q1, q2.2.2.1, q2.2.2.2⟩
theorem same_file (defs : List DefP) (rules : List RuleP) (hnd : defs.length <= 1000) (hnr : rules.length <= 1000) (w : World) (S S' : Nat -> Prop) (ds rs ds' rs' : Value) (hD : DefsAt w S ds (defs.map DefP.tree)) (hR : RulesAt w S rs (rules.map RuleP.tree)) (hD' : DefsAt w S' ds' (defs.map DefP.tree)) (hR' : RulesAt w S' rs' (rules.map RuleP.tree)) :
  Calls Tryz.prog 25 #[.agg #[ds, rs], .agg #[ds', rs']] w fun e w' => e = .returned (.bool true) /\ Below w.heap.size w w' := by
  obtain ⟨DA, dc, rfl, hd1, hd2, hdg⟩ := hD.get
  obtain ⟨DB, dc', rfl, hd1', hd2', hdg'⟩ := hD'.get
  obtain ⟨RA, rc, rfl, hr1, hr2, hrg⟩ := hR.get
  obtain ⟨RB, rc', rfl, hr1', hr2', hrg'⟩ := hR'.get
  obtain ⟨nd, hndE⟩ : ∃ d, defs.length = d := ⟨_, rfl⟩
  obtain ⟨nr, hnrE⟩ : ∃ d, rules.length = d := ⟨_, rfl⟩
  rw [hndE] at hd1 hd1' hnd ⊢
  rw [hnrE] at hr1 hr1' hnr ⊢
  unfold maxLen at hd2 hd2' hr2 hr2'
  have hB0 := TwoS.mk' w 28 #[.slice DA nd dc, .slice RA nr rc] #[.slice DB nd dc', .slice RB nr rc']
  have HDG := Lib.hid hdg; have HDG' := Lib.hid hdg'; have HRG := Lib.hid hrg; have HRG' := Lib.hid hrg'; have HB0 := Lib.hid hB0; have HND := Lib.hid hndE; have HNR := Lib.hid hnrE
  clear hdg hdg' hrg hrg' hB0 hndE hnrE hD hD' hR hR'
  go_enter Tryz.func25, Tryz.ntmps25
  go_wp2_with fail
  go_loopg [5] nd (fun gk vi wr => ∃ i : Nat, vi = .int .i64 i /\ gk = nd - i /\ i <= nd /\ Hid (TwoS w 28 #[.slice DA nd dc, .slice RA nr rc] #[.slice DB nd dc', .slice RB nr rc'] wr))
  case atStart => exact ⟨0, rfl, rfl, Nat.zero_le _, HB0⟩
  case round =>
   clear HB0
   obtain ⟨i, rfl, hgk, hin, HB⟩ := hrel
   have HGK := Lib.hid hgk; clear hgk
   have i0 : (0 : Int) <= (i : Int) := Int.natCast_nonneg _
   have b0 := Blk.cell HB.out.a 0
   simp only [List.getElem?_toArray, List.getElem?_cons_zero, List.getElem?_cons_succ] at b0
   by_cases hlt : i < nd
   ·have i1 : (i : Int) < (nd : Int) := by omega
    obtain ⟨d, hd⟩ : ∃ d, defs[i]? = some d := ⟨_, List.getElem?_eq_getElem (by rw [HND.out]; exact hlt)⟩
    obtain ⟨g, o, rfl, s, k1, lo1, hi1, nm1, A1, n1, c1, hs, hca, htv⟩ := HDG.out i d hd
    obtain ⟨g', o', rfl, s', k2, lo2, hi2, nm2, A2, n2, c2, hs', hca', htv'⟩ := HDG'.out i d hd
    obtain rfl : s' = s := bytes_ext (by rw [hs, hs'])
    have hbw := HB.out.below
    have hco := sameClasses d.c wr.drew S S' _ _ (htv.bel (fun _ h => h) hbw.drew) (htv'.bel (fun _ h => h) hbw.drew)
    have hRf : ∀ W : World, TwoS w 28 #[.slice (some ⟨g, o, none⟩) nd dc, .slice RA nr rc] #[.slice (some ⟨g', o', none⟩) nd dc', .slice RB nr rc'] W -> (fun w' : World => w'.cell? ⟨w.heap.size, 0, none⟩ = some (.slice (some ⟨g, o, none⟩) nd dc) /\ w'.cell? ⟨w.heap.size + 1, 0, none⟩ = some (.slice (some ⟨g', o', none⟩) nd dc') /\ w'.cell? ⟨g, o + i * 6, none⟩ = some (.string s') /\ w'.cell? ⟨g, o + i * 6 + 1, none⟩ = some (.int .i64 k1) /\ w'.cell? ⟨g, o + i * 6 + 2, none⟩ = some (.int .i64 lo1) /\ w'.cell? ⟨g, o + i * 6 + 3, none⟩ = some (.int .i64 hi1) /\ w'.cell? ⟨g, o + i * 6 + 4, none⟩ = some (.string nm1) /\ w'.cell? ⟨g, o + i * 6 + 5, none⟩ = some (.slice A1 n1 c1) /\ w'.cell? ⟨g', o' + i * 6, none⟩ = some (.string s') /\ w'.cell? ⟨g', o' + i * 6 + 1, none⟩ = some (.int .i64 k2) /\ w'.cell? ⟨g', o' + i * 6 + 2, none⟩ = some (.int .i64 lo2) /\ w'.cell? ⟨g', o' + i * 6 + 3, none⟩ = some (.int .i64 hi2) /\ w'.cell? ⟨g', o' + i * 6 + 4, none⟩ = some (.string nm2) /\ w'.cell? ⟨g', o' + i * 6 + 5, none⟩ = some (.slice A2 n2 c2)) W := fun W hW => by
     have q := (hca.bel hW.below).at6
     have q' := (hca'.bel hW.below).at6
     exact ⟨Blk.cell hW.a 0, Blk.cell hW.b 0, q.1, q.2.1, q.2.2.1, q.2.2.2.1, q.2.2.2.2.1, q.2.2.2.2.2, q'.1, q'.2.1, q'.2.2.1, q'.2.2.2.1, q'.2.2.2.2.1, q'.2.2.2.2.2⟩
    have hbrg : TwoS w 28 #[.slice (some ⟨g, o, none⟩) nd dc, .slice RA nr rc] #[.slice (some ⟨g', o', none⟩) nd dc', .slice RB nr rc'] wr := HB.out
    have HCO := Lib.hid hco; have HRF := Lib.hid hRf
    have hneq : (s'.toList != s'.toList) = false := by simp
    clear hco hRf hca hca' htv htv' hbw hs hs' hd HDG HDG' HRG HRG'
    go_wp2_with fail
    have hS := HRF.out _ hbrg.drew
    go_region_held3 (fun w' : World => w'.cell? ⟨w.heap.size, 0, none⟩ = some (.slice (some ⟨g, o, none⟩) nd dc) /\ w'.cell? ⟨w.heap.size + 1, 0, none⟩ = some (.slice (some ⟨g', o', none⟩) nd dc') /\ w'.cell? ⟨g, o + i * 6, none⟩ = some (.string s') /\ w'.cell? ⟨g, o + i * 6 + 1, none⟩ = some (.int .i64 k1) /\ w'.cell? ⟨g, o + i * 6 + 2, none⟩ = some (.int .i64 lo1) /\ w'.cell? ⟨g, o + i * 6 + 3, none⟩ = some (.int .i64 hi1) /\ w'.cell? ⟨g, o + i * 6 + 4, none⟩ = some (.string nm1) /\ w'.cell? ⟨g, o + i * 6 + 5, none⟩ = some (.slice A1 n1 c1) /\ w'.cell? ⟨g', o' + i * 6, none⟩ = some (.string s') /\ w'.cell? ⟨g', o' + i * 6 + 1, none⟩ = some (.int .i64 k2) /\ w'.cell? ⟨g', o' + i * 6 + 2, none⟩ = some (.int .i64 lo2) /\ w'.cell? ⟨g', o' + i * 6 + 3, none⟩ = some (.int .i64 hi2) /\ w'.cell? ⟨g', o' + i * 6 + 4, none⟩ = some (.string nm2) /\ w'.cell? ⟨g', o' + i * 6 + 5, none⟩ = some (.slice A2 n2 c2))
     (with_reducible (first | exact hS | exact hS3))
     (first
      | (go_at_call 44; (with_reducible refine HCO.out.mono ?_)
         rintro e w3 ⟨rfl, hb3⟩
         have hb3' : Below wr.heap.size wr w3 := (Below.refl _ wr).drew.trans hb3
         have hR3 := hbrg.bel hb3'
         have hS3 := HRF.out _ hR3
         have HRN := Lib.hid hR3
         clear hb3 hb3' hR3))
    go_wp2_with fail
    go_roundg (nd - (i + 1))
    case measure => have := HGK.out; omega
    case rel => exact ⟨i + 1, by go_num, rfl, hlt, HRN⟩
   ·obtain rfl : i = nd := by omega
    clear HDG HDG' HGK HND
    have b1 := Blk.cell HB.out.a 1
    simp only [List.getElem?_toArray, List.getElem?_cons_zero, List.getElem?_cons_succ] at b1
    have HB1 := HB
    go_wp2_with fail
    clear b0 b1 HB
    go_loopg [6] nr (fun gk vi wr => ∃ j : Nat, vi = .int .i64 j /\ gk = nr - j /\ j <= nr /\ Hid (TwoS w 28 #[.slice DA i dc, .slice RA nr rc] #[.slice DB i dc', .slice RB nr rc'] wr))
    case atStart => exact ⟨0, rfl, rfl, Nat.zero_le _, HB1⟩
    case round =>
     clear HB1
     obtain ⟨j, rfl, hgk, hjn, HB⟩ := hrel
     have HGK := Lib.hid hgk; clear hgk
     have j0 : (0 : Int) <= (j : Int) := Int.natCast_nonneg _
     have b1 := Blk.cell HB.out.a 1; have b2 := Blk.cell HB.out.b 1
     simp only [List.getElem?_toArray, List.getElem?_cons_zero, List.getElem?_cons_succ] at b1 b2
     by_cases hlt : j < nr
     ·have j1 : (j : Int) < (nr : Int) := by omega
      obtain ⟨d, hd⟩ : ∃ d, rules[j]? = some d := ⟨_, List.getElem?_eq_getElem (by rw [HNR.out]; exact hlt)⟩
      obtain ⟨g, o, rfl, ⟨cat, cost, k1, lo1, hi1, wt1, nm1, A1, n1, c1, k2, lo2, hi2, wt2, nm2, A2, n2, c2⟩, hcat, hcost, hca, htl, htr⟩ := HRG.out j d hd
      obtain ⟨g', o', rfl, ⟨cat', cost', k3, lo3, hi3, wt3, nm3, A3, n3, c3, k4, lo4, hi4, wt4, nm4', A4, n4, c4⟩, hcat', hcost', hca', htl', htr'⟩ := HRG'.out j d hd
      obtain rfl : cat' = cat := hcat'.trans hcat.symm
      obtain rfl : cost' = cost := hcost'.trans hcost.symm
      have hbw := HB.out.below
      have e1 := fun k v hk => (hca.bel hbw) k v hk
      have e2 := fun k v hk => (hca'.bel hbw) k v hk
      have p0 := e1 0 _ rfl; have p1 := e1 1 _ rfl; have p2 := e1 2 _ rfl; have p3 := e1 3 _ rfl; have p4 := e1 4 _ rfl; have p5 := e1 5 _ rfl; have p6 := e1 6 _ rfl; have p7 := e1 7 _ rfl; have p8 := e1 8 _ rfl; have p9 := e1 9 _ rfl; have p10 := e1 10 _ rfl; have p11 := e1 11 _ rfl; have p12 := e1 12 _ rfl; have p13 := e1 13 _ rfl
      have q0 := e2 0 _ rfl; have q1 := e2 1 _ rfl; have q2 := e2 2 _ rfl; have q3 := e2 3 _ rfl; have q4 := e2 4 _ rfl; have q5 := e2 5 _ rfl; have q6 := e2 6 _ rfl; have q7 := e2 7 _ rfl; have q8 := e2 8 _ rfl; have q9 := e2 9 _ rfl; have q10 := e2 10 _ rfl; have q11 := e2 11 _ rfl; have q12 := e2 12 _ rfl; have q13 := e2 13 _ rfl
      simp only [Nat.add_zero] at p0 q0
      have hg := World.block_lt_of_cell? wr _ p0; have hg' := World.block_lt_of_cell? wr _ q0
      have hw1 := HB.out.b.lt; have hw0 := HB.out.a.lt
      dsimp only at hg hg'
      have HTL := Lib.hid htl; have HTR := Lib.hid htr; have HTL' := Lib.hid htl'; have HTR' := Lib.hid htr'; have HBW := Lib.hid hbw
      clear e1 e2 hca hca' htl htr htl' htr' hcat hcost hcat' hcost' hd hbw HRG HRG'
      go_wp2_with fail
      go_region
      ·obtain ⟨W6, hW6⟩ : ∃ W6, ((wr.alloc (.cells #[.int .i64 cat', .int .i64 cost', .int .i64 k1, .int .i64 lo1, .int .i64 hi1, .int .i64 wt1, .string nm1, .slice A1 n1 c1, .int .i64 k2, .int .i64 lo2, .int .i64 hi2, .int .i64 wt2, .string nm2, .slice A2 n2 c2] 56)).alloc (.cells #[.int .i64 cat', .int .i64 cost', .int .i64 k3, .int .i64 lo3, .int .i64 hi3, .int .i64 wt3, .string nm3, .slice A3 n3 c3, .int .i64 k4, .int .i64 lo4, .int .i64 hi4, .int .i64 wt4, .string nm4', .slice A4 n4 c4] 56)).drew = W6 := ⟨_, rfl⟩
       have hb6 : Below wr.heap.size wr W6 := by rw [<- hW6]; exact (((Below.refl _ _).alloc (Nat.le_refl _) _).alloc (by simp) _).drew
       have k0 : Blk W6 wr.heap.size 56 #[.int .i64 cat', .int .i64 cost', .int .i64 k1, .int .i64 lo1, .int .i64 hi1, .int .i64 wt1, .string nm1, .slice A1 n1 c1, .int .i64 k2, .int .i64 lo2, .int .i64 hi2, .int .i64 wt2, .string nm2, .slice A2 n2 c2] := by rw [<- hW6]; exact Blk.alloc (Blk.new wr _ _) _
       have k1' : Blk W6 (wr.heap.size + 1) 56 #[.int .i64 cat', .int .i64 cost', .int .i64 k3, .int .i64 lo3, .int .i64 hi3, .int .i64 wt3, .string nm3, .slice A3 n3 c3, .int .i64 k4, .int .i64 lo4, .int .i64 hi4, .int .i64 wt4, .string nm4', .slice A4 n4 c4] := by rw [<- hW6]; exact blk_second _ _ _ _
       rw [hW6]
       have ka : Blk W6 wr.heap.size 56 #[.int .i64 cat', .int .i64 cost', .int .i64 k1, .int .i64 lo1, .int .i64 hi1, .int .i64 wt1, .string nm1, .slice A1 n1 c1, .int .i64 k2, .int .i64 lo2, .int .i64 hi2, .int .i64 wt2, .string nm2, .slice A2 n2 c2] := k0; have kb : Blk W6 (wr.heap.size + 1) 56 #[.int .i64 cat', .int .i64 cost', .int .i64 k3, .int .i64 lo3, .int .i64 hi3, .int .i64 wt3, .string nm3, .slice A3 n3 c3, .int .i64 k4, .int .i64 lo4, .int .i64 hi4, .int .i64 wt4, .string nm4', .slice A4 n4 c4] := k1'
       obtain ⟨ga, hga⟩ : ∃ x, wr.heap.size = x := ⟨_, rfl⟩
       obtain ⟨gb, hgb⟩ : ∃ x, wr.heap.size + 1 = x := ⟨_, rfl⟩
       rw [hga] at ka
       rw [hgb] at kb
       rw [hgb, hga]
       have hl6 := sameRexes d.left W6 S S' _ _ ((HTL.out.bel (fun _ h => h) HBW.out).bel (fun _ h => h) hb6) ((HTL'.out.bel (fun _ h => h) HBW.out).bel (fun _ h => h) hb6)
       have hr6 := fun W (hW : Below W6.heap.size W6 W) => sameRexes d.right W S S' _ _ (((HTR.out.bel (fun _ h => h) HBW.out).bel (fun _ h => h) hb6).bel (fun _ h => h) hW) (((HTR'.out.bel (fun _ h => h) HBW.out).bel (fun _ h => h) hb6).bel (fun _ h => h) hW)
       have HBN := Lib.hid (HB.out.bel hb6)
       have HL6 := Lib.hid hl6; have HR6 := Lib.hid hr6; have KA := Lib.hid ka; have KB := Lib.hid kb
       have r0 := Blk.cell ka 0; have r1 := Blk.cell ka 1; have r2 := Blk.cell ka 2; have r3 := Blk.cell ka 3; have r4 := Blk.cell ka 4; have r5 := Blk.cell ka 5; have r6 := Blk.cell ka 6; have r7 := Blk.cell ka 7
       have s0 := Blk.cell kb 0; have s1 := Blk.cell kb 1; have s2 := Blk.cell kb 2; have s3 := Blk.cell kb 3; have s4 := Blk.cell kb 4; have s5 := Blk.cell kb 5; have s6 := Blk.cell kb 6; have s7 := Blk.cell kb 7
       simp only [List.getElem?_toArray, List.getElem?_cons_zero, List.getElem?_cons_succ] at r0 r1 r2 r3 r4 r5 r6 r7 s0 s1 s2 s3 s4 s5 s6 s7
       clear hl6 hr6 ka kb k0 k1' hb6 hga hgb hW6 HB HTL HTR HTL' HTR' HBW p0 p1 p2 p3 p4 p5 p6 p7 p8 p9 p10 p11 p12 p13 q0 q1 q2 q3 q4 q5 q6 q7 q8 q9 q10 q11 q12 q13 b1 b2 hg hg' hw0 hw1
       try apply_assumption
       go_wp2_with fail
       refine HL6.out.mono ?_
       rintro e w7 ⟨rfl, hb7⟩
       have ka := Blk.below KA.out hb7 KA.out.lt; have kb := Blk.below KB.out hb7 KB.out.lt
       have HR7 := Lib.hid (HR6.out w7 hb7); have HBM := Lib.hid (HBN.out.bel hb7)
       clear r0 r1 r2 r3 r4 r5 r6 r7 s0 s1 s2 s3 s4 s5 s6 s7 hb7 HL6 HR6 HBN
       have r8 := Blk.cell ka 8; have r9 := Blk.cell ka 9; have r10 := Blk.cell ka 10; have r11 := Blk.cell ka 11; have r12 := Blk.cell ka 12; have r13 := Blk.cell ka 13
       have s8 := Blk.cell kb 8; have s9 := Blk.cell kb 9; have s10 := Blk.cell kb 10; have s11 := Blk.cell kb 11; have s12 := Blk.cell kb 12; have s13 := Blk.cell kb 13
       simp only [List.getElem?_toArray, List.getElem?_cons_zero, List.getElem?_cons_succ] at r8 r9 r10 r11 r12 r13 s8 s9 s10 s11 s12 s13
       clear ka kb
       go_wp2_with fail
       refine HR7.out.mono ?_
       rintro e w8 ⟨rfl, hb8⟩
       have HBO := Lib.hid (HBM.out.bel hb8)
       clear r8 r9 r10 r11 r12 r13 s8 s9 s10 s11 s12 s13 hb8 HR7 HBM
       go_wp2_with fail
       go_roundg (nr - (j + 1))
       case measure => have := HGK.out; omega
       case rel => exact ⟨j + 1, by go_num, rfl, hlt, HBO⟩
      ·obtain ⟨W6, hW6⟩ : ∃ W6, ((wr.alloc (.cells #[.int .i64 cat', .int .i64 cost', .int .i64 k3, .int .i64 lo3, .int .i64 hi3, .int .i64 wt3, .string nm3, .slice A3 n3 c3, .int .i64 k4, .int .i64 lo4, .int .i64 hi4, .int .i64 wt4, .string nm4', .slice A4 n4 c4] 56)).alloc (.cells #[.int .i64 cat', .int .i64 cost', .int .i64 k1, .int .i64 lo1, .int .i64 hi1, .int .i64 wt1, .string nm1, .slice A1 n1 c1, .int .i64 k2, .int .i64 lo2, .int .i64 hi2, .int .i64 wt2, .string nm2, .slice A2 n2 c2] 56)).drew = W6 := ⟨_, rfl⟩
       have hb6 : Below wr.heap.size wr W6 := by rw [<- hW6]; exact (((Below.refl _ _).alloc (Nat.le_refl _) _).alloc (by simp) _).drew
       have k0 : Blk W6 wr.heap.size 56 #[.int .i64 cat', .int .i64 cost', .int .i64 k3, .int .i64 lo3, .int .i64 hi3, .int .i64 wt3, .string nm3, .slice A3 n3 c3, .int .i64 k4, .int .i64 lo4, .int .i64 hi4, .int .i64 wt4, .string nm4', .slice A4 n4 c4] := by rw [<- hW6]; exact Blk.alloc (Blk.new wr _ _) _
       have k1' : Blk W6 (wr.heap.size + 1) 56 #[.int .i64 cat', .int .i64 cost', .int .i64 k1, .int .i64 lo1, .int .i64 hi1, .int .i64 wt1, .string nm1, .slice A1 n1 c1, .int .i64 k2, .int .i64 lo2, .int .i64 hi2, .int .i64 wt2, .string nm2, .slice A2 n2 c2] := by rw [<- hW6]; exact blk_second _ _ _ _
       rw [hW6]
       have ka : Blk W6 (wr.heap.size + 1) 56 #[.int .i64 cat', .int .i64 cost', .int .i64 k1, .int .i64 lo1, .int .i64 hi1, .int .i64 wt1, .string nm1, .slice A1 n1 c1, .int .i64 k2, .int .i64 lo2, .int .i64 hi2, .int .i64 wt2, .string nm2, .slice A2 n2 c2] := k1'; have kb : Blk W6 wr.heap.size 56 #[.int .i64 cat', .int .i64 cost', .int .i64 k3, .int .i64 lo3, .int .i64 hi3, .int .i64 wt3, .string nm3, .slice A3 n3 c3, .int .i64 k4, .int .i64 lo4, .int .i64 hi4, .int .i64 wt4, .string nm4', .slice A4 n4 c4] := k0
       obtain ⟨ga, hga⟩ : ∃ x, wr.heap.size + 1 = x := ⟨_, rfl⟩
       obtain ⟨gb, hgb⟩ : ∃ x, wr.heap.size = x := ⟨_, rfl⟩
       rw [hga] at ka
       rw [hgb] at kb
       rw [hga, hgb]
       have hl6 := sameRexes d.left W6 S S' _ _ ((HTL.out.bel (fun _ h => h) HBW.out).bel (fun _ h => h) hb6) ((HTL'.out.bel (fun _ h => h) HBW.out).bel (fun _ h => h) hb6)
       have hr6 := fun W (hW : Below W6.heap.size W6 W) => sameRexes d.right W S S' _ _ (((HTR.out.bel (fun _ h => h) HBW.out).bel (fun _ h => h) hb6).bel (fun _ h => h) hW) (((HTR'.out.bel (fun _ h => h) HBW.out).bel (fun _ h => h) hb6).bel (fun _ h => h) hW)
       have HBN := Lib.hid (HB.out.bel hb6)
       have HL6 := Lib.hid hl6; have HR6 := Lib.hid hr6; have KA := Lib.hid ka; have KB := Lib.hid kb
       have r0 := Blk.cell ka 0; have r1 := Blk.cell ka 1; have r2 := Blk.cell ka 2; have r3 := Blk.cell ka 3; have r4 := Blk.cell ka 4; have r5 := Blk.cell ka 5; have r6 := Blk.cell ka 6; have r7 := Blk.cell ka 7
       have s0 := Blk.cell kb 0; have s1 := Blk.cell kb 1; have s2 := Blk.cell kb 2; have s3 := Blk.cell kb 3; have s4 := Blk.cell kb 4; have s5 := Blk.cell kb 5; have s6 := Blk.cell kb 6; have s7 := Blk.cell kb 7
       simp only [List.getElem?_toArray, List.getElem?_cons_zero, List.getElem?_cons_succ] at r0 r1 r2 r3 r4 r5 r6 r7 s0 s1 s2 s3 s4 s5 s6 s7
       clear hl6 hr6 ka kb k0 k1' hb6 hga hgb hW6 HB HTL HTR HTL' HTR' HBW p0 p1 p2 p3 p4 p5 p6 p7 p8 p9 p10 p11 p12 p13 q0 q1 q2 q3 q4 q5 q6 q7 q8 q9 q10 q11 q12 q13 b1 b2 hg hg' hw0 hw1
       try apply_assumption
       go_wp2_with fail
       refine HL6.out.mono ?_
       rintro e w7 ⟨rfl, hb7⟩
       have ka := Blk.below KA.out hb7 KA.out.lt; have kb := Blk.below KB.out hb7 KB.out.lt
       have HR7 := Lib.hid (HR6.out w7 hb7); have HBM := Lib.hid (HBN.out.bel hb7)
       clear r0 r1 r2 r3 r4 r5 r6 r7 s0 s1 s2 s3 s4 s5 s6 s7 hb7 HL6 HR6 HBN
       have r8 := Blk.cell ka 8; have r9 := Blk.cell ka 9; have r10 := Blk.cell ka 10; have r11 := Blk.cell ka 11; have r12 := Blk.cell ka 12; have r13 := Blk.cell ka 13
       have s8 := Blk.cell kb 8; have s9 := Blk.cell kb 9; have s10 := Blk.cell kb 10; have s11 := Blk.cell kb 11; have s12 := Blk.cell kb 12; have s13 := Blk.cell kb 13
       simp only [List.getElem?_toArray, List.getElem?_cons_zero, List.getElem?_cons_succ] at r8 r9 r10 r11 r12 r13 s8 s9 s10 s11 s12 s13
       clear ka kb
       go_wp2_with fail
       refine HR7.out.mono ?_
       rintro e w8 ⟨rfl, hb8⟩
       have HBO := Lib.hid (HBM.out.bel hb8)
       clear r8 r9 r10 r11 r12 r13 s8 s9 s10 s11 s12 s13 hb8 HR7 HBM
       go_wp2_with fail
       go_roundg (nr - (j + 1))
       case measure => have := HGK.out; omega
       case rel => exact ⟨j + 1, by go_num, rfl, hlt, HBO⟩
     ·obtain rfl : j = nr := by omega
      have HF := Lib.hid HB.out.below
      clear HRG HRG' HGK HB
      go_wp2_with fail
      go_ret
      exact ⟨rfl, HF.out⟩
end Go.Proofs.YtalgnnidhnhciaaGreatDoor
