/- Contracts of part.row and part.In. Reading rows of truths, rows of them. -/
import Derived.Test.YtfccnadbiglagaaGreatVPartD
import Derived.Deep.Onto
set_option linter.unusedVariables false
set_option linter.unusedSimpArgs false
set_option maxRecDepth 100000
set_option maxHeartbeats 4000000
namespace Go.Proofs.YtfccnadbiglagaaGreat
open Go Go.RowKit
theorem info_bool : (Tryz.prog.info? 4).map (fun i => (i.zero, i.size, i.bytes)) = some (some (.bool false), 1, 1) := by kernel_rfl
theorem info_bools : (Tryz.prog.info? 56).map (fun i => (i.zero, i.size, i.bytes)) = some (some (.slice none 0 0), 1, 24) := by kernel_rfl
def OwnB (w : World) (B : Nat) (v : Value) (n : Nat) (l : List Bool) : Prop := w.ownsRow B 4 1 v n (l.map Value.bool)
theorem OwnB.len {w : World} {B n : Nat} {v : Value} {l : List Bool} (h : OwnB w B v n l) : l.length = n := by have := h.1; simpa using this
theorem OwnB.cast {w : World} {B : Nat} {v : Value} {n n' : Nat} {l l' : List Bool} (h : OwnB w B v n l) (hn : n = n') (hl : l = l') : OwnB w B v n' l' := by subst hn; subst hl; exact h
theorem OwnB.stored {w : World} {B g cap n : Nat} {l : List Bool} (h : OwnB w B (.slice (some ⟨g, 0, none⟩) n cap) n l) (j : Nat) (x : Bool) :
  OwnB (w.setCell ⟨g, j, none⟩ (.bool x)) B (.slice (some ⟨g, 0, none⟩) n cap) n (l.set j x) /\ w.grownBy (w.setCell ⟨g, j, none⟩ (.bool x)) (some g) := by
  have := World.ownsRow.stored h j (.bool x)
  refine ⟨?_, this.2⟩
  unfold OwnB
  rw [List.map_set]
  exact this.1
theorem OwnB.thaw {w : World} {B g cap n : Nat} {l : List Bool} (h : OwnB w B (.slice (some ⟨g, 0, none⟩) n cap) n l) (j : Nat) : w.frozen? ⟨g, j, none⟩ = false := World.ownsRow.frozenAt h j
theorem OwnB.cellAt {w : World} {B g cap n : Nat} {l : List Bool} (h : OwnB w B (.slice (some ⟨g, 0, none⟩) n cap) n l) (j : Nat) (hj : j < n) : w.cell? ⟨g, j, none⟩ = some (.bool (l.getD j false)) := by
 have hl := h.len
 rw [World.ownsRow.cellAt h j (by omega)]
 simp [List.getD, List.getElem?_eq_getElem (show j < l.length by omega)]
def TellsB (w : World) (R : List Bool) (e : Ending) (w' : World) : Prop := ∃ v, e = .returned v /\ OwnB w' w.heap.size v R.length R /\ Below w.heap.size w w'
theorem keysL_at (ss : List (List (Int × Int))) (k : Nat) (hk : k < (keysL ss).length) : (keysL ss)[k] = keyL ss ((cutsL ss).getD k 0) := by
 have hk' : k < (cutsL ss).length := by simpa [keysL] using hk
 simp [keysL, List.getD, List.getElem?_eq_getElem hk']
theorem letsL_nat (ss : List (List (Int × Int))) (k : Nat) (hk : k < (keysL ss).length) : (letsL ss).getD k 0 = (((lets (keysL ss)).getD k 0 : Nat) : Int) := by
 have hkl : k < (lets (keysL ss)).length := by rw [lets_len]; exact hk
 simp [letsL, List.getD, List.getElem?_eq_getElem hkl]
theorem prow_any {w : World} {v u q : Value} {m n : Nat} {ss : List (List (Int × Int))} (i : Nat) (hi : i < ss.length) (hss : RtAll ss) (h : ReadsI w v m (cutsL ss)) (h' : ReadsI w u m (letsL ss)) (hq : ReadsP w q n (ss.getD i [])) (hm : m <= 1000000000) :
  Calls Tryz.prog 96 #[q, v, u] w (TellsB w (inRow ss i)) := by
  obtain ⟨a, cap, rfl, hc1, hc2, hl⟩ := h.form
  obtain ⟨a', cap', rfl, -, -, hl'⟩ := h'.form
  obtain ⟨a3, cap3, rfl, -, -, -⟩ := hq.form
  have hks : (keysL ss).length = m := by rw [<- hl]; simp [keysL]
  have HC := Lib.hid (pcount_any (ks := keysL ss) h' hm)
  have H := Lib.hid h; have H' := Lib.hid h'; have HQ := Lib.hid hq
  have HRi := Lib.hid (hss.at i hi)
  have HI : Hid (∀ k, k < m -> ∃ y b, (letsL ss).getD k 0 = ((y : Nat) : Int) /\ y < (kindsL ss).length /\ hasB (ss.getD i []) ((cutsL ss).getD k 0) = b /\ (rowAt (keysL ss) (fun k => k.getD i false) [] k).set y b = rowAt (keysL ss) (fun k => k.getD i false) [] (k + 1)) := Lib.hid fun k hk => by
   have hk' : k < (keysL ss).length := by omega
   refine ⟨(lets (keysL ss)).getD k 0, _, letsL_nat ss k hk', lets_lt _ k hk', rfl, ?_⟩
   have := rowAt_step (keysL ss) (fun k => k.getD i false) [] k hk'
   rw [keysL_at ss k hk', keyL_at ss _ i hi] at this
   exact this
  have HZ : Hid (rowAt (keysL ss) (fun k => k.getD i false) [] 0 = List.replicate (kindsL ss).length false) := Lib.hid (rowAt_zero _ _ _)
  have HA : Hid (rowAt (keysL ss) (fun k => k.getD i false) [] m = inRow ss i) := Lib.hid (rowAt_all _ _ _ _ (by omega))
  have HLN : Hid ((inRow ss i).length = (kindsL ss).length) := Lib.hid (inRow_len ss i)
  have hkl : (kindsL ss).length <= 1000000000 := by
   have := firsts_len_le (keysL ss); unfold kindsL; omega
  have hK : (firsts (keysL ss)).length = (kindsL ss).length := rfl
  rw [hK] at HC
  clear hK hks hl hl' h h' hq hss
  generalize rowAt (keysL ss) (fun k => k.getD i false) [] = RA at *
  generalize (kindsL ss).length = K at *
  generalize cutsL ss = C at *
  generalize letsL ss = L at *
  generalize inRow ss i = R at *
  generalize ss.getD i [] = l at *
  obtain ⟨i0, hi0, hz0, hz1, hz2⟩ := info_parts info_bool
  go_enter Tryz.func96, Tryz.ntmps96
  go_wp2_with fail
  refine HC.out.mono ?_
  rintro e w1 ⟨rfl, h2⟩
  have B1 := Lib.hid h2
  have hz := h2.size
  clear h2 HC
  have hcm : ¬ (m = 0 /\ False) := by simp
  go_wp2_with (at_make; refine wpList_make_full _ rfl (.tmp 12) (.tmp 12) 56 rfl w.heap.size 4 i0 _ 1 Tryz.underlying56 hi0 hz0 hz1 .i64 .i64 _ _ K (by rfl) (by rfl) rfl rfl (by rw [hz2]; omega) (by unfold maxLen; omega) hz ?_
               intro w2 hown hgr
               have HOW := Lib.hid hown; have HGR := Lib.hid hgr; clear hown hgr)
  have HO2 : Hid (OwnB w2 w.heap.size (.slice (some ⟨w1.heap.size, 0, none⟩) K K) K (RA 0)) := Lib.hid (by
   rw [HZ.out]; unfold OwnB
   have := HOW.out
   rw [show (Value.bool false).cells = #[Value.bool false] from rfl, toList_madeCells_one, Nat.mul_one] at this
   rw [List.map_replicate]; exact this)
  have B2 := Lib.hid (B1.out.grown HGR.out hz (fun k hk => by cases hk))
  have hz2 := B2.out.size
  clear HOW HGR HZ
  generalize w1.heap.size = g at *
  have hgz : w.heap.size <= g := hz
  go_loopw [22] (fun i wr => ∃ (k : Nat), k <= m /\ i = .int .i64 k /\ Hid (OwnB wr w.heap.size (.slice (some ⟨g, 0, none⟩) K K) K (RA k)) /\ Hid (Below w.heap.size w wr)) (fun i _ => m - (intOf i).toNat)
  case atStart => exact ⟨0, Nat.zero_le _, rfl, HO2, B2⟩
  case round =>
   obtain ⟨k, hk, rfl, HV, HB⟩ := hrel
   have hzr := HB.out.size
   have i0 : (0 : Int) <= (k : Int) := Int.natCast_nonneg _
   by_cases hlt : k < m
   ·have i1 : (k : Int) < (m : Int) := by omega
    have t1 : decide (k < m) = true := by simpa using hlt
    obtain ⟨b1, off1, rfl, hb1, c1⟩ := H.out.at k hlt
    obtain ⟨b2, off2, rfl, hb2, c2⟩ := H'.out.at k hlt
    have c1 := (HB.out.cell (p := ⟨b1, off1 + k, none⟩) hb1).trans c1
    have c2 := (HB.out.cell (p := ⟨b2, off2 + k, none⟩) hb2).trans c2
    obtain ⟨y, b, e1, hy, e2, e3⟩ := HI.out k hlt
    rw [e1] at c2; clear e1
    have E3 := Lib.hid e3; clear e3
    have hH := has_any (x := C.getD k 0) (HQ.out.below HB.out) HRi.out
    rw [e2] at hH; clear e2
    have HH := Lib.hid hH; clear hH
    generalize C.getD k 0 = x at *
    have y0 : (0 : Int) <= (y : Int) := Int.natCast_nonneg _
    have y1 : (y : Int) < (K : Int) := by omega
    have t2 : decide (y < K) = true := by simpa using hy
    go_wp2_with fail
    refine HH.out.mono ?_
    rintro e w3 ⟨rfl, h2⟩
    have HV3 : Hid (OwnB w3 w.heap.size (.slice (some ⟨g, 0, none⟩) K K) K (RA k)) := Lib.hid (ownsRow_below HV.out (fun r hr => (World.ownsRow.lt HV.out r hr).2) h2)
    have HB3 := Lib.hid (HB.out.trans (h2.mono hzr)); clear h2 HH
    have f1 := HV3.out.thaw y
    have d1 := HV3.out.cellAt y hy
    go_wp2_with fail
    obtain ⟨s1, s2⟩ := HV3.out.stored y b
    refine ⟨⟨k + 1, by omega, by go_num, ?_, ?_⟩, by simp [intOf]; omega⟩
    ·rw [E3.out] at s1
     exact Lib.hid (by simpa using s1)
    ·have := HB3.out.grown s2 (by have := HB3.out.size; omega) (fun r hr => by cases hr; exact hgz)
     exact Lib.hid (by simpa using this)
   ·have hkm : k = m := by omega
    have HKM := Lib.hid hkm; clear hkm
    go_wp2_with fail
    go_ret
    exact ⟨_, rfl, HV.out.cast HLN.out.symm (by rw [HKM.out, HA.out]), HB.out⟩
def inRows (ss : List (List (Int × Int))) (k : Nat) : List (List Bool) := (List.range k).map (inRow ss)
def boolRows (R : List (List Bool)) : List (Nat × List Value) := R.map fun l => (l.length, l.map Value.bool)
theorem inRows_snoc (ss : List (List (Int × Int))) (k : Nat) : boolRows (inRows ss (k + 1)) = boolRows (inRows ss k) ++ [((inRow ss k).length, (inRow ss k).map Value.bool)] := by
 simp [boolRows, inRows, List.range_succ]
def TellsBB (w : World) (R : List (List Bool)) (e : Ending) (w' : World) : Prop := ∃ v, e = .returned v /\ OwnLL w' w.heap.size 56 4 1 v R.length (boolRows R) /\ Below w.heap.size w w'
theorem in_any {w : World} {v u q : Value} {m k0 : Nat} {ss : List (List (Int × Int))} (hq : ReadsL w q k0 ss) (hss : RtAll ss) (h : ReadsI w v m (cutsL ss)) (h' : ReadsI w u m (letsL ss)) (hm : m <= 1000000000) (hk0 : k0 <= 13) :
  Calls Tryz.prog 59 #[q, v, u] w (TellsBB w (inRows ss k0)) := by
  obtain ⟨a, cap, rfl, -, -, hl⟩ := hq.form
  have hv := h.form; have hu := h'.form
  obtain ⟨a1, cap1, rfl, -, -, -⟩ := hv
  obtain ⟨a2, cap2, rfl, -, -, -⟩ := hu
  have HQ := Lib.hid hq; have HS := Lib.hid hss; have H := Lib.hid h; have H' := Lib.hid h'; have HL := Lib.hid hl
  have HIR : Hid (∀ k, boolRows (inRows ss (k + 1)) = boolRows (inRows ss k) ++ [((inRow ss k).length, (inRow ss k).map Value.bool)]) := Lib.hid (inRows_snoc ss)
  clear hq hss h h' hl
  go_enter Tryz.func59, Tryz.ntmps59
  go_wp2_with fail
  go_loopw [7, 12] (fun s i wr => ∃ (k : Nat), k <= k0 /\ i = .int .i64 k /\ Hid (OwnLL wr w.heap.size 56 4 1 s k (boolRows (inRows ss k))) /\ Hid (Below w.heap.size w wr)) (fun _ i _ => k0 - (intOf i).toNat)
  case atStart => exact ⟨0, Nat.zero_le _, rfl, Lib.hid (OwnLL.nil _ _ _ _ _), Lib.hid (Below.refl _ _)⟩
  case round =>
   obtain ⟨k, hk, rfl, HV, HB⟩ := hrel
   have hz := HB.out.size
   have i0 : (0 : Int) <= (k : Int) := Int.natCast_nonneg _
   by_cases hlt : k < k0
   ·have i1 : (k : Int) < (k0 : Int) := by omega
    have t1 : decide (k < k0) = true := by simpa using hlt
    obtain ⟨b, off, x, rfl, c1, hx⟩ := HQ.out.at k hlt
    have hbl := World.block_lt_of_cell? w _ c1
    have c1 := (HB.out.cell (p := ⟨b, off + k, none⟩) hbl).trans c1
    have HX := Lib.hid (ReadsP.below hx HB.out); clear hx
    have HR := Lib.hid (prow_any k (by rw [HL.out]; exact hlt) HS.out (H.out.below HB.out) (H'.out.below HB.out) HX.out hm)
    have SN := Lib.hid (HIR.out k)
    generalize inRow ss k = R at *
    generalize boolRows (inRows ss k) = xs at *
    generalize ss.getD k [] = l at *
    obtain ⟨a3, cap3, rfl, -, -, -⟩ := HX.out.form
    go_wp2_with fail
    refine HR.out.mono ?_
    rintro e w2 ⟨v2, rfl, h1, h2⟩
    have HV2 := Lib.hid (HV.out.below h2)
    have HB2 := Lib.hid (HB.out.trans (h2.mono hz))
    have hz2 := HB2.out.size
    have hap : Apart u7 v2 := by
     cases h7 : u7.ownBlock with
     | none => exact .inl h7
     | some r =>
       right; right
       intro e
       have q1 := (HV.out.lt r h7).2
       have q2 := (World.ownsRow.lt h1 r (by rw [<- e, h7])).1
       omega
    have HO := Lib.hid (World.ownsRow.mono h1 hz)
    have HAP := Lib.hid hap
    obtain ⟨ad2, cp2, e2⟩ : ∃ a c, v2 = .slice a R.length c := by
     rcases h1.2 with ⟨e, e'⟩ | ⟨g, cap, cur, e, _⟩
     ·exact ⟨none, 0, by rw [e, e']⟩
     ·exact ⟨_, _, e⟩
    clear h1 h2 hap HR
    subst e2
    go_wp2_with (at_builtin; refine wpList_pushLL rfl (.tmp 16) (.tmp 21) 51 56 4 1 24 rfl Tryz.underlying51 info_bools (by omega) w.heap.size _ _ k xs _ _ _ (by rfl) HV2.out HO.out HAP.out (by rfl) (by omega) hz2 ?_
                 intro g4 c4 w4 hp
                 have HP := Lib.hid hp; clear hp)
    refine ⟨⟨k + 1, by omega, by go_num, Lib.hid (by rw [SN.out]; exact HP.out.own), Lib.hid (HP.out.below HB2.out (Nat.le_refl _) hz2)⟩, by simp [intOf]; omega⟩
   ·have hkm : k = k0 := by omega
    have HKM := Lib.hid hkm; clear hkm
    have HN : Hid ((inRows ss k0).length = k0) := Lib.hid (by simp [inRows])
    go_wp2_with fail
    go_ret
    refine ⟨_, rfl, ?_, HB.out⟩
    rw [HN.out]
    have := HV.out
    rw [HKM.out] at this
    rw [HKM.out]
    exact this
end Go.Proofs.YtfccnadbiglagaaGreat
namespace Go.Proofs.YtfccnadbiglagaaGreat
open Go Go.RowKit
def ReadsB (w : World) (u : Value) (l : List Bool) : Prop :=
 ∃ a cap, u = .slice a l.length cap /\ ∀ j, j < l.length -> ∃ b off, a = some ⟨b, off, none⟩ /\ w.cell? ⟨b, off + j, none⟩ = some (.bool (l.getD j false))
def ReadsBB (w : World) (v : Value) (n : Nat) (R : List (List Bool)) : Prop :=
 R.length = n /\ ∃ a cap, v = .slice a n cap /\ ∀ i, i < n -> ∃ b off u, a = some ⟨b, off, none⟩ /\ w.cell? ⟨b, off + i, none⟩ = some u /\ ReadsB w u (R.getD i [])
section
variable {w w' : World} {v u : Value} {n : Nat} {R : List (List Bool)} {l : List Bool}
theorem ReadsB.same (h : ReadsB w u l) (hk : ∀ b o x, w.cell? ⟨b, o, none⟩ = some x -> w'.cell? ⟨b, o, none⟩ = some x) : ReadsB w' u l := by
 obtain ⟨a, cap, e, hc⟩ := h
 refine ⟨a, cap, e, fun j hj => ?_⟩
 obtain ⟨b, off, e2, c⟩ := hc j hj
 exact ⟨b, off, e2, hk _ _ _ c⟩
theorem ReadsBB.same (h : ReadsBB w v n R) (hk : ∀ b o x, w.cell? ⟨b, o, none⟩ = some x -> w'.cell? ⟨b, o, none⟩ = some x) : ReadsBB w' v n R := by
 obtain ⟨h1, a, cap, e, hc⟩ := h
 refine ⟨h1, a, cap, e, fun i hi => ?_⟩
 obtain ⟨b, off, u, e2, c, r⟩ := hc i hi
 exact ⟨b, off, u, e2, hk _ _ _ c, r.same hk⟩
theorem ReadsBB.below (h : ReadsBB w v n R) (hb : Below w.heap.size w w') : ReadsBB w' v n R :=
 h.same fun b o x hx => by rw [hb.cell (p := ⟨b, o, none⟩) (World.block_lt_of_cell? w _ hx)]; exact hx
theorem ReadsBB.at {a : Option Addr} {cap : Nat} (h : ReadsBB w (.slice a n cap) n R) (i : Nat) (hi : i < n) :
  ∃ b off a' cap', a = some ⟨b, off, none⟩ /\ w.cell? ⟨b, off + i, none⟩ = some (.slice a' (R.getD i []).length cap') /\ ReadsB w (.slice a' (R.getD i []).length cap') (R.getD i []) := by
  obtain ⟨h1, a2, cap2, e, hc⟩ := h
  simp only [Value.slice.injEq, true_and] at e
  obtain ⟨rfl, rfl⟩ := e
  obtain ⟨b, off, u, e2, c, r⟩ := hc i hi
  obtain ⟨a', cap', e3, hr⟩ := r
  subst e3
  exact ⟨b, off, a', cap', e2, c, a', cap', rfl, hr⟩
theorem ReadsB.at {a : Option Addr} {k cap : Nat} (h : ReadsB w (.slice a k cap) l) (j : Nat) (hj : j < l.length) : ∃ b off, a = some ⟨b, off, none⟩ /\ w.cell? ⟨b, off + j, none⟩ = some (.bool (l.getD j false)) := by
 obtain ⟨a2, cap2, e, hc⟩ := h
 simp only [Value.slice.injEq] at e
 obtain ⟨rfl, _, rfl⟩ := e
 exact hc j hj
end
theorem ownB_reads {w : World} {B n : Nat} {u : Value} {l : List Bool} (h : w.ownsRow B 4 1 u n (l.map Value.bool)) : ReadsB w u l := by
 have h0 : OwnB w B u n l := h
 have hl := h0.len
 rcases h.2 with ⟨rfl, rfl⟩ | ⟨g, cap, cur, rfl, _⟩
 ·exact ⟨none, 0, by rw [hl], fun j hj => by omega⟩
 ·exact ⟨_, cap, by rw [hl], fun j hj => ⟨g, 0, rfl, by rw [Nat.zero_add]; exact h0.cellAt j (by omega)⟩⟩
theorem boolRows_at (R : List (List Bool)) (i : Nat) (hi : i < R.length) : (boolRows R).getD i (0, []) = ((R.getD i []).length, (R.getD i []).map Value.bool) := by
 simp [boolRows, List.getD, List.getElem?_eq_getElem hi]
theorem OwnLL.readsBB {w : World} {B n : Nat} {v : Value} {R : List (List Bool)} (h : OwnLL w B 56 4 1 v n (boolRows R)) : ReadsBB w v n R := by
 have hl : R.length = n := by have := OwnLL.len h; simpa [boolRows] using this
 refine ⟨hl, ?_⟩
 rcases OwnLL.form h with ⟨rfl, rfl, _⟩ | ⟨g, cap, rfl, _, _, h1, h2, hc⟩
 ·exact ⟨none, 0, rfl, fun i hi => absurd hi (Nat.not_lt_zero i)⟩
 ·refine ⟨_, cap, rfl, fun i hi => ?_⟩
  obtain ⟨u, c1, c2⟩ := hc i hi
  rw [boolRows_at R i (by omega)] at c2
  exact ⟨g, 0, u, rfl, c1, ownB_reads c2⟩
end Go.Proofs.YtfccnadbiglagaaGreat
