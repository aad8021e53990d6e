/- forward.has, of labels that are places. forward.picked. -/
import Derived.Test.YtdcokkgdahbinaaVMiniFe
set_option linter.unusedVariables false
set_option linter.unusedSimpArgs false
set_option maxRecDepth 100000
set_option maxHeartbeats 8000000
namespace Go.Proofs.Ytdcokkgdahbinaa
open Go Go.RowKit Go.Proofs
theorem has_any {w : World} {NA OA LA : Option Addr} {nc oc n m l lc q : Nat} {E : List (List V3)} {ls : List Nat} (ho : EmitR w (.slice OA m oc) E) (hel : E.length = m) (hm : 0 < m) (hq : (E.getD 0 []).length = q) (hv : ReadsI w (.slice LA l lc) l (intsN ls)) (hls : ∀ x ∈ ls, x < q) (hq9 : q <= 1000) (hl9 : l <= 1000) :
  Calls Try.prog 44 #[.agg #[.slice NA n nc, .slice OA m oc], .slice LA l lc] w fun e w' => e = .returned (.bool true) /\ Below w.heap.size w w' := by
  have hsl : ls.length = l := by have := hv.1; simpa [intsN] using this
  obtain ⟨-, VA', c', e, hvc, hvc2, -, -⟩ := id hv
  simp only [Value.slice.injEq, true_and] at e
  obtain ⟨rfl, rfl⟩ := e
  unfold maxLen at hvc2
  obtain ⟨OA', c', e, hoc, hoc2⟩ := ho.form
  rw [hel] at hoc
  simp only [Value.slice.injEq] at e
  obtain ⟨rfl, -, rfl⟩ := e
  obtain ⟨g0, o0, A, q', c, hA, hq0, d0, -, q1, q2⟩ := ho.at_ (i := 0) (by rw [hel]; exact hm)
  subst hA
  rw [hq] at hq0
  subst hq0
  rw [Nat.add_zero] at d0
  obtain ⟨W0, hW0⟩ : ∃ W0, w.alloc (.cells #[.slice NA n nc, .slice (some ⟨g0, o0, none⟩) m oc] 73) = W0 := ⟨_, rfl⟩
  have hb0 : Below w.heap.size w W0 := by rw [<- hW0]; exact (Below.refl _ _).alloc (Nat.le_refl _) _
  have hx0 : Blk W0 w.heap.size 73 #[.slice NA n nc, .slice (some ⟨g0, o0, none⟩) m oc] := by rw [<- hW0]; exact Blk.new _ _ _
  obtain ⟨nb, hnb⟩ : ∃ nb, nb = w.heap.size := ⟨_, rfl⟩
  rw [<- hnb] at hx0
  have d1 : W0.cell? ⟨g0, o0, none⟩ = some (.slice A q' c) := bel_m hb0 d0
  have b1 := hx0.cell 1
  simp only [List.getElem?_toArray, List.getElem?_cons_zero, List.getElem?_cons_succ] at b1
  have HV := Lib.hid (hv.below hb0); have HB0 := Lib.hid hb0; have HW0 := Lib.hid hW0; have HNB := Lib.hid hnb; have HLS := Lib.hid hls; have HSL := Lib.hid hsl
  have m0 : (0 : Int) < (m : Int) := by omega
  have tm : decide (0 < m) = true := by simpa using hm
  clear ho hel d0 hv hb0 hW0 hnb hls hsl hx0 hq
  go_enter Try.func44, Try.ntmps44
  go_wp2_with fail
  rw [HW0.out, <- HNB.out]
  go_loopw [9] (fun vi wr => ∃ j : Nat, vi = .int .i64 (j : Int) /\ j <= l /\ wr = W0) (fun vi _ => l - (intOf vi).toNat)
  case atStart => exact ⟨0, rfl, Nat.zero_le _, by trivial⟩
  case round =>
   obtain ⟨j, rfl, hj, hw⟩ := hrel
   subst hw
   have j0 : (0 : Int) <= (j : Int) := Int.natCast_nonneg _
   by_cases hlt : j < l
   ·have j1 : (j : Int) < (l : Int) := by omega
    have tj : decide (j < l) = true := by simpa using hlt
    have til : j < ls.length := by rw [HSL.out]; exact hlt
    have hxm : ls.getD j 0 ∈ ls := by rw [List.getD_eq_getElem?_getD, List.getElem?_eq_getElem til]; exact List.getElem_mem _
    have hxn := HLS.out _ hxm
    obtain ⟨b, o, hA, -, e2⟩ := HV.out.at j hlt
    subst hA
    rw [intsN_at] at e2
    obtain ⟨x, hx⟩ : ∃ x, ls.getD j 0 = x := ⟨_, rfl⟩
    rw [hx] at hxn e2
    have x0 : (0 : Int) <= (x : Int) := Int.natCast_nonneg _
    have x1 : (x : Int) < (q' : Int) := by omega
    have x2 : ¬ (x : Int) < 0 := by omega
    have x3 : ¬ (q' : Int) <= (x : Int) := by omega
    have x4 : decide (q' <= x) = false := by simp; omega
    clear hx hxm til
    go_wp2_with fail
    exact ⟨⟨j + 1, by go_num, by omega, by trivial⟩, by simp [intOf]; omega⟩
   ·obtain rfl : j = l := by omega
    go_wp2_with fail
    go_ret
    exact ⟨rfl, HB0.out⟩
end Go.Proofs.Ytdcokkgdahbinaa
namespace Go.Proofs.Ytdcokkgdahbinaa
open Go Go.RowKit Go.Proofs
theorem set_flat : ∀ (l : List V3) (i : Nat) (u : V3), (((l.flatMap encV).set (i * 3) (.int .i64 u.1)).set (i * 3 + 1) (.int .i64 u.2.1)).set (i * 3 + 2) (.int .i64 u.2.2) = (l.set i u).flatMap encV
 | [], i, u => by simp
 | a :: l, 0, u => rfl
 | a :: l, i + 1, u => by
   have ih := set_flat l i u
   rw [show (i + 1) * 3 = i * 3 + 1 + 1 + 1 by omega]
   show Value.int .i64 a.1 :: Value.int .i64 a.2.1 :: Value.int .i64 a.2.2 :: ((((l.flatMap encV).set (i * 3) (.int .i64 u.1)).set (i * 3 + 1) (.int .i64 u.2.1)).set (i * 3 + 2) (.int .i64 u.2.2)) = _
   rw [ih]
   rfl
def zV : V3 := (0, 0, 0)
def mkV (l : Nat) : Array Value := madeCells #[.int .i64 0, .int .i64 0, .int .i64 0] (l * 3)
theorem mkV_any (l : Nat) (hl : l <= 1000) (W : World) : (Instr.makeSlice 42 (.int .i64 (l : Int)) (.int .i64 (l : Int))).run Try.prog W = .ok (.slice (some ⟨W.heap.size, 0, none⟩) l l) (W.alloc (.cells (mkV l) 53)) := by
 obtain ⟨i0, hi, hz0, hz1, hz2⟩ := info_parts info_vec
 have h := run_make (P := Try.prog) W 42 53 i0 _ Try.underlying42 hi hz0 .i64 .i64 l l (by omega) (Int.le_refl _) (by rw [hz2]; omega) (by omega)
 rw [h, hz1]
 simp only [Int.toNat_natCast]
 rfl
theorem own_mkV (l : Nat) (hl : l <= 1000) (w : World) : OwnE encV 53 3 (w.alloc (.cells (mkV l) 53)) w.heap.size (sl w.heap.size l l) l (List.replicate l zV) := by
 have hlen : ((List.replicate l zV).flatMap encV).length = l * 3 := by rw [flatMap_len encV 3 encV_len, List.length_replicate]
 have hsz : (mkV l).size = l * 3 := by simp [mkV, size_madeCells]
 refine ⟨hlen, .inr ⟨w.heap.size, l, _, rfl, Nat.le_refl _, heap_alloc_new w _, Nat.le_refl _, by unfold maxLen; omega, hsz, ?_⟩⟩
 apply List.ext_getElem?
 intro j
 rcases Nat.lt_or_ge j (l * 3) with h | h
 ·have e : j = j / 3 * 3 + j % 3 := by omega
  have h1 : ((List.replicate l zV).flatMap encV)[j]? = (encV zV)[j % 3]? := by
   conv => lhs; rw [e]
   rw [flatMap_at encV 3 encV_len _ _ _ (by rw [List.length_replicate]; omega) (by omega), List.getElem_replicate]
  rw [h1, List.getElem?_take, if_pos h]
  have h3 : j % 3 < 3 := by omega
  have h2 : (mkV l).toList[j]? = (encV zV)[j % 3]? := by
   rw [Array.getElem?_toList, Array.getElem?_eq_getElem (by rw [hsz]; exact h)]
   simp [mkV, madeCells]
   generalize j % 3 = r at h3 ⊢
   rcases (show r = 0 \/ r = 1 \/ r = 2 by omega) with rfl | rfl | rfl <;> rfl
  exact h2
 ·rw [List.getElem?_eq_none (by rw [List.length_take]; omega), List.getElem?_eq_none (by omega)]
theorem OwnE.storeV {w : World} {B g n c : Nat} {l : List V3} (h : OwnE encV 53 3 w B (sl g n c) n l) (i : Nat) (u : V3) :
  OwnE encV 53 3 (((w.setCell ⟨g, i * 3, none⟩ (.int .i64 u.1)).setCell ⟨g, i * 3 + 1, none⟩ (.int .i64 u.2.1)).setCell ⟨g, i * 3 + 2, none⟩ (.int .i64 u.2.2)) B (sl g n c) n (l.set i u) := by
  have h1 := (World.ownsRow.stored h (i * 3) (.int .i64 u.1)).1
  have h2 := (World.ownsRow.stored h1 (i * 3 + 1) (.int .i64 u.2.1)).1
  have h3 := (World.ownsRow.stored h2 (i * 3 + 2) (.int .i64 u.2.2)).1
  unfold OwnE
  rw [<- set_flat]
  exact h3
def pickL (vs : List V3) (ls : List Nat) (l j : Nat) : List V3 := (ls.take j).map (fun a => vs.getD a zV) ++ List.replicate (l - j) zV
theorem pickL_step (vs : List V3) {ls : List Nat} {l j : Nat} (hl : ls.length = l) (hj : j < l) : (pickL vs ls l j).set j (vs.getD (ls.getD j 0) zV) = pickL vs ls l (j + 1) := by
 unfold pickL
 have hlen : ((ls.take j).map fun a => vs.getD a zV).length = j := by simp; omega
 rw [List.set_append_right _ _ (by omega), hlen, Nat.sub_self, show l - j = (l - (j + 1)) + 1 by omega, List.replicate_succ, List.set_cons_zero,
  List.take_add_one, List.getElem?_eq_getElem (show j < ls.length by omega), List.map_append, List.append_assoc]
 simp [List.getD, List.getElem?_eq_getElem (show j < ls.length by omega)]
theorem pickL_all (vs : List V3) {ls : List Nat} {l : Nat} (hl : ls.length = l) : pickL vs ls l l = ls.map fun a => vs.getD a zV := by
 unfold pickL
 rw [Nat.sub_self, List.take_of_length_le (by omega)]
 simp
theorem picked_any {w : World} {NA OA LA : Option Addr} {nc oc n m l lc : Nat} {E : List (List V3)} {ls : List Nat} (ho : EmitR w (.slice OA m oc) E) (hel : E.length = m) {x : Nat} (hx : x < m) (hv : ReadsI w (.slice LA l lc) l (intsN ls)) (hls : ∀ a ∈ ls, a < (E.getD x []).length) (hl9 : l <= 1000) :
  Calls Try.prog 46 #[.agg #[.slice NA n nc, .slice OA m oc], .int .i64 (x : Int), .slice LA l lc] w fun e w' => ∃ g, e = .returned (sl g l l) /\ OwnE encV 53 3 w' w.heap.size (sl g l l) l (ls.map fun a => (E.getD x []).getD a zV) /\ Below w.heap.size w w' := by
  have hsl : ls.length = l := by have := hv.1; simpa [intsN] using this
  obtain ⟨-, VA', c', e, hvc, hvc2, -, -⟩ := id hv
  simp only [Value.slice.injEq, true_and] at e
  obtain ⟨rfl, rfl⟩ := e
  unfold maxLen at hvc2
  obtain ⟨OA', c', e, hoc, hoc2⟩ := ho.form
  rw [hel] at hoc
  simp only [Value.slice.injEq] at e
  obtain ⟨rfl, -, rfl⟩ := e
  obtain ⟨g0, o0, A, q, c, hA, hq0, d0, hr, q1, q2⟩ := ho.at_ (i := x) (by rw [hel]; exact hx)
  subst hA
  rw [<- hq0] at hls
  generalize E.getD x [] = vs at *
  have x0 : (0 : Int) <= (x : Int) := Int.natCast_nonneg _
  have x1 : (x : Int) < (m : Int) := by omega
  have tx : decide (x < m) = true := by simpa using hx
  obtain ⟨W0, hW0⟩ : ∃ W0, w.alloc (.cells #[.slice NA n nc, .slice (some ⟨g0, o0, none⟩) m oc] 73) = W0 := ⟨_, rfl⟩
  have hb0 : Below w.heap.size w W0 := by rw [<- hW0]; exact (Below.refl _ _).alloc (Nat.le_refl _) _
  have hx0 : Blk W0 w.heap.size 73 #[.slice NA n nc, .slice (some ⟨g0, o0, none⟩) m oc] := by rw [<- hW0]; exact Blk.new _ _ _
  obtain ⟨nb, hnb⟩ : ∃ nb, nb = w.heap.size := ⟨_, rfl⟩
  rw [<- hnb] at hx0
  obtain ⟨W1, hW1⟩ : ∃ W1, W0.alloc (.cells (mkV l) 53) = W1 := ⟨_, rfl⟩
  have hb1 : Below W0.heap.size W0 W1 := by rw [<- hW1]; exact (Below.refl _ _).alloc (Nat.le_refl _) _
  have ho1 := own_mkV l hl9 W0
  rw [hW1] at ho1
  obtain ⟨g, hg⟩ : ∃ g, W0.heap.size = g := ⟨_, rfl⟩
  rw [hg] at ho1 hb1
  have hg2 : w.heap.size + 1 = g := by rw [<- hg, <- hW0]; simp
  have h00 : OwnE encV 53 3 W1 g (sl g l l) l (pickL vs ls l 0) := by
   have e : pickL vs ls l 0 = List.replicate l zV := by simp [pickL]
   rw [e]; exact ho1
  have hmk := mkV_any l hl9
  have HV := Lib.hid (hv.below hb0); have HR := Lib.hid (hr.below hb0); have HB0 := Lib.hid hb0; have HW0 := Lib.hid hW0; have HNB := Lib.hid hnb; have HW1 := Lib.hid hW1; have HB1 := Lib.hid hb1; have HLS := Lib.hid hls; have HSL := Lib.hid hsl; have HX0 := Lib.hid hx0; have H00 := Lib.hid h00; have HG := Lib.hid hg; have HG2 := Lib.hid hg2; have HQ0 := Lib.hid hq0; have HD := Lib.hid (show W0.cell? ⟨g0, o0 + x, none⟩ = some (.slice A q c) from bel_m hb0 d0)
  clear ho hel d0 hv hb0 hW0 hnb hls hsl hx0 hr hb1 ho1 hW1 hg hg2 h00 hq0
  have l0 : (0 : Int) <= (l : Int) := Int.natCast_nonneg _
  go_enter Try.func46, Try.ntmps46
  go_wp2_with fail
  rw [HW0.out, HG2.out, <- HNB.out, HW1.out]
  clear hmk
  go_loopw [15] (fun vi wr => ∃ j : Nat, vi = .int .i64 (j : Int) /\ j <= l /\ Hid (OwnE encV 53 3 wr g (sl g l l) l (pickL vs ls l j)) /\ Hid (Below g W0 wr)) (fun vi _ => l - (intOf vi).toNat)
  case atStart => exact ⟨0, rfl, Nat.zero_le _, H00, HB1⟩
  case round =>
   clear H00
   obtain ⟨j, rfl, hj, HO, HB⟩ := hrel
   have j0 : (0 : Int) <= (j : Int) := Int.natCast_nonneg _
   have hbw : Below W0.heap.size W0 wr := by rw [HG.out]; exact HB.out
   by_cases hlt : j < l
   ·have j1 : (j : Int) < (l : Int) := by omega
    have tj : decide (j < l) = true := by simpa using hlt
    have til : j < ls.length := by rw [HSL.out]; exact hlt
    have hxm : ls.getD j 0 ∈ ls := by rw [List.getD_eq_getElem?_getD, List.getElem?_eq_getElem til]; exact List.getElem_mem _
    have hxn := HLS.out _ hxm
    have d1 := bel_m hbw HD.out
    have hst := pickL_step vs HSL.out hlt
    obtain ⟨b, o, hA, -, e2⟩ := (HV.out.below hbw).at j hlt
    subst hA
    rw [intsN_at] at e2
    obtain ⟨y, hy⟩ : ∃ y, ls.getD j 0 = y := ⟨_, rfl⟩
    rw [hy] at hxn e2 hst
    have y0 : (0 : Int) <= (y : Int) := Int.natCast_nonneg _
    have y1 : (y : Int) < (q : Int) := by omega
    have ty : decide (y < q) = true := by simpa using hxn
    have hyl : y < vs.length := by rw [<- HQ0.out]; exact hxn
    obtain ⟨u, hu⟩ : ∃ u, vs.getD y zV = u := ⟨_, rfl⟩
    have hus : vs[y]? = some u := by rw [<- hu, List.getD_eq_getElem?_getD, List.getElem?_eq_getElem hyl]; rfl
    rw [hu] at hst
    obtain ⟨b', o', hA, -, hcl⟩ := (HR.out.below hbw).at encV_len (by decide) y u hus
    subst hA
    have s0 := hcl 0 _ rfl; have s1 := hcl 1 _ rfl; have s2 := hcl 2 _ rfl
    rw [Nat.add_zero] at s0
    have hxb := Blk.below HX0.out hbw HX0.out.lt
    have b1 := hxb.cell 1
    simp only [List.getElem?_toArray, List.getElem?_cons_zero, List.getElem?_cons_succ] at b1
    have f0 := World.ownsRow.frozenAt HO.out (j * 3); have f1 := World.ownsRow.frozenAt HO.out (j * 3 + 1); have f2 := World.ownsRow.frozenAt HO.out (j * 3 + 2)
    have hpl := HO.out.len encV_len (by decide)
    obtain ⟨old, hold⟩ : ∃ old, (pickL vs ls l j)[j]? = some old := ⟨_, List.getElem?_eq_getElem (by omega)⟩
    obtain ⟨bg, og, eg, -, hog⟩ := (HO.out.reads encV_len (by decide)).at encV_len (by decide) j old hold
    simp only [Option.some.injEq, Addr.mk.injEq, and_true] at eg
    obtain ⟨rfl, rfl⟩ := eg
    have r0 := hog 0 _ rfl; have r1 := hog 1 _ rfl; have r2 := hog 2 _ rfl
    rw [Nat.zero_add] at r0 r1 r2
    rw [Nat.add_zero] at r0
    clear hog hold hpl
    have HST := Lib.hid hst
    have hbs : g <= wr.heap.size := by have := hbw.size; have := HG.out; omega
    have HOW := HO
    clear hcl hus hu hyl hy hxm til hst hxb hbw
    go_wp2_with fail
    have hfr : Fr (fun q => q = g) wr (((wr.setCell ⟨g, j * 3, none⟩ (.int .i64 u.1)).setCell ⟨g, j * 3 + 1, none⟩ (.int .i64 u.2.1)).setCell ⟨g, j * 3 + 2, none⟩ (.int .i64 u.2.2)) :=
     (((Fr.refl (fun q => q = g) wr).set_ (p := ⟨g, j * 3, none⟩) (.inl rfl) _).set_ (p := ⟨g, j * 3 + 1, none⟩) (.inl rfl) _).set_ (p := ⟨g, j * 3 + 2, none⟩) (.inl rfl) _
    refine ⟨⟨j + 1, by go_num, by omega, Lib.hid ?_, Lib.hid (HB.out.trans (hfr.below hbs (fun q hq e => by omega)))⟩, by simp [intOf]; omega⟩
    rw [<- HST.out]
    exact OwnE.storeV HO.out j u
   ·obtain rfl : j = l := by omega
    have HBF := Lib.hid (HB0.out.trans (hbw.mono HB0.out.size))
    go_wp2_with fail
    go_ret
    refine ⟨g, rfl, ?_, HBF.out⟩
    have h1 := HO.out
    rw [pickL_all vs HSL.out] at h1
    exact h1.more (by have := HG2.out; omega)
end Go.Proofs.Ytdcokkgdahbinaa
