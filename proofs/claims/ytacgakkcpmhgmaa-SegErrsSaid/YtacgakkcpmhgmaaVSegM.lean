/- Contract of seg: a text's letters. Contract of seg: runner.run. Contracts of seg: Segment, New. Texts, broken: the laws' opening test. -/
import Derived.Test.YtacgakkcpmhgmaaVSegA
import Derived.Test.YtacgakkcpmhgmaaVSegJ
import Derived.Test.YtacgakkcpmhgmaaVUtfD
import Derived.Test.YtacgakkcpmhgmaaVSegC
import Derived.Test.YtacgakkcpmhgmaaVTableH
import Derived.Test.YtacgakkcpmhgmaaVTableYi
set_option linter.unusedVariables false
set_option linter.unusedSimpArgs false
set_option maxRecDepth 100000
set_option maxHeartbeats 4000000
namespace Go.Proofs.Ytacgakkcpmhgmaa
open Go Go.RowKit Go.Proofs
theorem nx_in (l : List UInt8) : 0 <= (nx l).1 /\ (nx l).1 <= 1114111 := by
 have b0 := bt_lt l 0; have b1 := bt_lt l 1; have b2 := bt_lt l 2; have b3 := bt_lt l 3
 rcases nx_cases l with ⟨h, e⟩ | ⟨h, e⟩ | ⟨_, _, _, e⟩ | ⟨h1, h2, hs, e⟩ | ⟨_, _, _, _, e⟩ | ⟨h1, h2, hs, h3, e⟩ | ⟨_, _, _, _, _, e⟩ | ⟨h1, h2, hs, h3, h4, e⟩ <;> rw [e] <;> dsimp only <;> try omega
 have h5 := hs.2.2; have h6 := hs.2.1
 unfold hiOf at h5
 unfold loOf at h6
 split at h5
 ·omega
 ·split at h5 <;> split at h6 <;> (try split at h6) <;> omega
theorem scs_in (l : List UInt8) : ∀ x ∈ scs l, 0 <= x /\ x <= 1114111 := by
 have key : ∀ (n : Nat) (l : List UInt8), l.length <= n -> ∀ x ∈ scs l, 0 <= x /\ x <= 1114111 := by
  intro n
  induction n with
  | zero =>
    intro l h
    have : l = [] := List.eq_nil_of_length_eq_zero (by omega)
    subst this
    intro x hx
    rw [scs_nil] at hx; cases hx
  | succ n ih =>
    intro l h x hx
    by_cases e : l = []
    ·subst e; rw [scs_nil] at hx; cases hx
    ·rw [scs_cons l e] at hx
     have hp := List.length_pos_iff.2 e
     have hn := nx_le l e
     rcases List.mem_cons.1 hx with h9 | hx
     ·rw [h9]; exact nx_in l
     ·exact ih _ (by rw [List.length_drop]; omega) x hx
 exact key _ l (Nat.le_refl _)
theorem sletters_any {w : World} {vc vl vbn vbo vfn vfe : Value} {t : Tab} (ht : TabR w vc vl vbn vbo vfn vfe t) (hT : RightT t) (s : ByteArray) (hs : s.size <= 10000) :
  Calls Try.prog 64 #[tabV vc vl vbn vbo vfn vfe, .string s] w fun e w' => ∃ g, e = .returned (sl g (scs s.data.toList).length (scs s.data.toList).length) /\ w.heap.size <= g /\ Blk w' g 3 (icells (scs s.data.toList).length fun i => lettI t ((scs s.data.toList).getD i 0)) /\ Below w.heap.size w w' := by
  obtain ⟨A0, k0, rfl, p0, q0, -⟩ := ht.c.form
  obtain ⟨A1, k1, rfl, p1, q1, -⟩ := ht.l.form
  obtain ⟨n2, A2, k2, rfl, p2, q2⟩ : ∃ n A k, vbn = .slice A n k /\ n <= k /\ k <= 9223372036854775807 := by obtain ⟨A, k, h⟩ := ht.bn.form; exact ⟨_, A, k, h⟩
  obtain ⟨n3, A3, k3, rfl, p3, q3⟩ : ∃ n A k, vbo = .slice A n k /\ n <= k /\ k <= 9223372036854775807 := by obtain ⟨A, k, h1, h2, h3, -⟩ := ht.bo.form; exact ⟨_, A, k, h1, h2, h3⟩
  obtain ⟨n4, A4, k4, rfl, p4, q4⟩ : ∃ n A k, vfn = .slice A n k /\ n <= k /\ k <= 9223372036854775807 := by obtain ⟨A, k, h⟩ := ht.fn.form; exact ⟨_, A, k, h⟩
  obtain ⟨n5, A5, k5, rfl, p5, q5⟩ : ∃ n A k, vfe = .slice A n k /\ n <= k /\ k <= 9223372036854775807 := by obtain ⟨A, k, h⟩ := ht.fe.form; exact ⟨_, A, k, h⟩
  obtain ⟨cn, hcn⟩ : ∃ n, t.cuts.length = n := ⟨_, rfl⟩
  obtain ⟨ln, hln⟩ : ∃ n, t.letters.length = n := ⟨_, rfl⟩
  have hcc := ht.c; have hll := ht.l
  rw [hcn] at p0 hcc ⊢
  rw [hln] at p1 hll ⊢
  obtain ⟨B, hB⟩ : ∃ B, w.heap.size = B := ⟨_, rfl⟩
  obtain ⟨W0, hW0⟩ : ∃ W, w.alloc (.cells #[.slice A0 cn k0, .slice A1 ln k1, .slice A2 n2 k2, .slice A3 n3 k3, .slice A4 n4 k4, .slice A5 n5 k5] 75) = W := ⟨_, rfl⟩
  have hx0 : Blk W0 B 75 #[.slice A0 cn k0, .slice A1 ln k1, .slice A2 n2 k2, .slice A3 n3 k3, .slice A4 n4 k4, .slice A5 n5 k5] := by rw [<- hW0]; exact sblk_new _ hB _ _
  have hb0 : Below w.heap.size w W0 := by rw [<- hW0]; exact (Below.refl _ _).alloc (Nat.le_refl _) _
  have hlen := scs_length_le s.data.toList
  have hsz : s.data.toList.length = s.size := rfl
  rw [hsz] at hlen
  have hsc : ∀ x ∈ scs s.data.toList, 0 <= x /\ x <= 1114111 := scs_in _
  obtain ⟨sc, hsce⟩ : ∃ l, scs s.data.toList = l := ⟨_, rfl⟩
  rw [hsce] at hlen hsc ⊢
  obtain ⟨N, hN⟩ : ∃ N, sc.length = N := ⟨_, rfl⟩
  rw [hN] at hlen ⊢
  have hdec := decode_any s W0 (by omega)
  have HW0 := Lib.hid hW0; have HX0 := Lib.hid hx0; have HB0 := Lib.hid hb0; have HDEC := Lib.hid hdec; have HN := Lib.hid hN; have HCC := Lib.hid (hcc.below hb0); have HLL := Lib.hid (hll.below hb0); have HRT := Lib.hid hT; have HCN := Lib.hid hcn; have HLN := Lib.hid hln; have HB := Lib.hid hB; have HSCE := Lib.hid hsce; have HSC := Lib.hid hsc
  clear hsce hsc ht hT hcc hll hW0 hx0 hb0 hdec hN hcn hln hB
  go_enter Try.func64, Try.ntmps64
  unfold tabV
  go_wp2_with fail
  rw [HW0.out]
  simp only [HB.out]
  refine HDEC.out.mono ?_
  rintro e w1 hd
  unfold DecTells at hd
  obtain ⟨v, u, rfl, hv, -, -, hb1⟩ := hd
  rw [HSCE.out, HN.out] at hv
  have hr := hv.readsI
  obtain ⟨A, cap, rfl, v1, v2, v3⟩ := hr.form
  have hbw1 : Below w.heap.size w w1 := HB0.out.trans (hb1.mono HB0.out.size)
  have hx1 := Blk.below HX0.out hb1 HX0.out.lt
  have hcc1 := HCC.out.below hb1
  have hll1 := HLL.out.below hb1
  obtain ⟨g, hg⟩ : ∃ g, g = w1.heap.size := ⟨_, rfl⟩
  obtain ⟨W2, hW2⟩ : ∃ W, w1.alloc (.cells (icells N (fun _ => 0)) 3) = W := ⟨_, rfl⟩
  have hg2 : Blk W2 g 3 (icells N (fun _ => 0)) := by rw [<- hW2, hg]; exact Blk.new _ _ _
  have hb2 : Below w1.heap.size w1 W2 := by rw [<- hW2]; exact (Below.refl _ _).alloc (Nat.le_refl _) _
  have hmk : (Instr.makeSlice 22 (.int .i64 (N : Int)) (.int .i64 (N : Int))).run Try.prog w1 = .ok (sl g N N) W2 := by
   have := mkI_big N (by omega) w1
   rw [<- hg, icells_rep, hW2] at this
   exact this
  have hwg : w.heap.size <= g := by rw [hg]; exact hbw1.size
  have HR := Lib.hid hr; have HX1 := Lib.hid hx1; have HBW := Lib.hid hbw1; have HCC1 := Lib.hid hcc1; have HLL1 := Lib.hid hll1; have HG2 := Lib.hid hg2; have HB2 := Lib.hid hb2; have HG := Lib.hid hg; have HSL := Lib.hid v3
  clear hv hr hx1 hbw1 hcc1 hll1 hg2 hb2 hg hb1 v3 hW2 HX0 HB0 HDEC HCC HLL HN
  go_wp2_with fail
  try rw [hmk]
  try go_wp2_with fail
  clear hmk
  go_loopw [20] (fun vi wr => ∃ (i : Nat) (f : Nat -> Int), vi = .int .i64 (i : Int) /\ i <= N /\ Hid (Blk wr g 3 (icells N f)) /\ Hid (∀ j, j < i -> f j = lettI t (sc.getD j 0)) /\ Hid (Below w1.heap.size w1 wr)) (fun vi _ => N - (intOf vi).toNat)
  case atStart => exact ⟨0, _, rfl, Nat.zero_le _, HG2, Lib.hid (fun j hj => absurd hj (Nat.not_lt_zero j)), HB2⟩
  case round =>
   clear HG2 HB2
   obtain ⟨i, f, rfl, hi, HV, HJ, HB1⟩ := hrel
   have i0 : (0 : Int) <= (i : Int) := Int.natCast_nonneg _
   by_cases hlt : i < N
   ·have i1 : (i : Int) < (N : Int) := by omega
    have t1 : decide (i < N) = true := by simpa using hlt
    have t2 : decide (N <= i) = false := by simpa using hlt
    obtain ⟨g2, o2, e2', -, cl⟩ := (HR.out.below HB1.out).at i hlt
    subst e2'
    have hxm := HSC.out _ (getD_memL (d := 0) (i := i) (by rw [HSL.out]; exact hlt))
    obtain ⟨x, hx⟩ : ∃ x, sc.getD i 0 = x := ⟨_, rfl⟩
    rw [hx] at hxm cl
    have hxx := Blk.below HX1.out HB1.out HX1.out.lt
    have c0 := hxx.cell 0; have c1 := hxx.cell 1
    simp only [List.getElem?_toArray, List.getElem?_cons_zero, List.getElem?_cons_succ] at c0 c1
    have hcall := letter_tab (T := t) (by rw [HCN.out]; exact HCC1.out.below HB1.out) (by rw [HLN.out]; exact HLL1.out.below HB1.out) HRT.out hxm.1 hxm.2
    have HCALL := Lib.hid hcall; have HXE := Lib.hid hx
    clear hx hxm hxx hcall
    go_wp2_with fail
    refine HCALL.out.mono ?_
    rintro e w3 ⟨rfl, hb3⟩
    have hV3 := Blk.below HV.out hb3 HV.out.lt
    have d0 := hV3.cell i; have z0 := hV3.frozen i
    rw [icells_at _ hlt] at d0
    have HV3 := Lib.hid (iset hV3 hlt (lettI t x))
    have HB3 := Lib.hid (HB1.out.trans (hb3.mono HB1.out.size))
    obtain ⟨y, hy⟩ : ∃ y, lettI t x = y := ⟨_, rfl⟩
    rw [hy] at HV3 ⊢
    have HY := Lib.hid hy
    clear hb3 hV3 hy
    go_wp2_with fail
    refine ⟨⟨i + 1, _, by go_num, by omega, HV3, Lib.hid (fun j hj => ?_), Lib.hid (HB3.out.setCell (p := ⟨g, i, none⟩) (by rw [<- HG.out]; exact Nat.le_refl _) _)⟩, by simp [intOf]; omega⟩
    by_cases e : j = i
    ·rw [e, if_pos rfl, HXE.out, HY.out]
    ·rw [if_neg e]; exact HJ.out j (by omega)
   ·obtain rfl : N = i := by omega
    go_wp2_with fail
    go_ret
    refine ⟨g, rfl, hwg, ?_, HBW.out.trans (HB1.out.mono HBW.out.size)⟩
    have e : icells N (fun i => lettI t (sc.getD i 0)) = icells N f := by
     unfold icells
     congr 1
     apply List.map_congr_left
     intro j hj
     rw [HJ.out j (List.mem_range.1 hj)]
    rw [e]
    exact HV.out
end Go.Proofs.Ytacgakkcpmhgmaa
namespace Go.Proofs.Ytacgakkcpmhgmaa
open Go Go.RowKit Go.Proofs
theorem text_range (t : Tab) (sc : List Int) : (List.range sc.length).map (fun i => lettI t (sc.getD i 0)) = textI t sc := by
 unfold textI
 apply List.ext_getElem
 ·simp
 ·intro i h1 h2
  simp at h1 h2
  simp [List.getD_eq_getElem?_getD, h1]
theorem outs_range (t : Tab) (l : List Int) {m : Nat} (h : m = l.length + 1) : (List.range m).map (fun i => t.bo.getD (bakI t.bn l i).toNat 0) = outsI_ t l := by
 rw [h]; rfl
theorem vcells_congr {m : Nat} {f g : Nat -> V3} (h : ∀ i, i < m -> f i = g i) : vcells m f = vcells m g := by
 unfold vcells
 congr 2
 apply List.map_congr_left
 intro j hj
 exact h j (List.mem_range.1 hj)
theorem cntL_le_len (l : List Int) : cntL l <= l.length := by
 have key : ∀ n, n <= l.length -> cntL (l.take n) <= n := by
  intro n
  induction n with
  | zero => intro _; simp [cntL]
  | succ n ih =>
    intro hn
    rw [cntL_take_succ (show n < l.length by omega)]
    have := ih (by omega)
    split <;> omega
 have := key l.length (Nat.le_refl _)
 rwa [List.take_length] at this
theorem textI_len (t : Tab) (l : List Int) : (textI t l).length = l.length := by simp [textI]
theorem srun_any {w : World} {vc vl vbn vbo vfn vfe : Value} {t : Tab} (ht : TabR w vc vl vbn vbo vfn vfe t) (hT : RightT t) (s : ByteArray) (hs : s.size <= 10000) :
  Calls Try.prog 47 #[tabV vc vl vbn vbo vfn vfe, .string s] w fun e w' => ∃ g, e = .returned (sl g ((scs s.data.toList).length + 1) ((scs s.data.toList).length + 1)) /\ w.heap.size <= g /\ Blk w' g 51 (vcells ((scs s.data.toList).length + 1) (segV t (textI t (scs s.data.toList)))) /\ Below w.heap.size w w' := by
  obtain ⟨A0, k0, e0, p0, q0, -⟩ := ht.c.form
  obtain ⟨A1, k1, e1, p1, q1, -⟩ := ht.l.form
  obtain ⟨n2, A2, k2, e2, p2, q2⟩ : ∃ n A k, vbn = .slice A n k /\ n <= k /\ k <= 9223372036854775807 := by obtain ⟨A, k, h⟩ := ht.bn.form; exact ⟨_, A, k, h⟩
  obtain ⟨n3, A3, k3, e3, p3, q3⟩ : ∃ n A k, vbo = .slice A n k /\ n <= k /\ k <= 9223372036854775807 := by obtain ⟨A, k, h1, h2, h3, -⟩ := ht.bo.form; exact ⟨_, A, k, h1, h2, h3⟩
  obtain ⟨n4, A4, k4, e4, p4, q4⟩ : ∃ n A k, vfn = .slice A n k /\ n <= k /\ k <= 9223372036854775807 := by obtain ⟨A, k, h⟩ := ht.fn.form; exact ⟨_, A, k, h⟩
  obtain ⟨n5, A5, k5, e5, p5, q5⟩ : ∃ n A k, vfe = .slice A n k /\ n <= k /\ k <= 9223372036854775807 := by obtain ⟨A, k, h⟩ := ht.fe.form; exact ⟨_, A, k, h⟩
  obtain ⟨n0, hn0⟩ : ∃ n, t.cuts.length = n := ⟨_, rfl⟩
  obtain ⟨n1, hn1⟩ : ∃ n, t.letters.length = n := ⟨_, rfl⟩
  rw [hn0] at e0; rw [hn1] at e1
  subst e0 e1 e2 e3 e4 e5
  obtain ⟨B, hB⟩ : ∃ B, w.heap.size = B := ⟨_, rfl⟩
  obtain ⟨W0, hW0⟩ : ∃ W, w.alloc (.cells #[.slice A0 n0 k0, .slice A1 n1 k1, .slice A2 n2 k2, .slice A3 n3 k3, .slice A4 n4 k4, .slice A5 n5 k5] 75) = W := ⟨_, rfl⟩
  have hx0 : Blk W0 B 75 #[.slice A0 n0 k0, .slice A1 n1 k1, .slice A2 n2 k2, .slice A3 n3 k3, .slice A4 n4 k4, .slice A5 n5 k5] := by rw [<- hW0]; exact sblk_new _ hB _ _
  have hb0 : Below w.heap.size w W0 := by rw [<- hW0]; exact (Below.refl _ _).alloc (Nat.le_refl _) _
  have hlen := scs_length_le s.data.toList
  have hsz : s.data.toList.length = s.size := rfl
  rw [hsz] at hlen
  have hcall := sletters_any (ht.below hb0) hT s hs
  have hscin := scs_in s.data.toList
  obtain ⟨sc, hsce⟩ : ∃ l, scs s.data.toList = l := ⟨_, rfl⟩
  rw [hsce] at hlen hcall hscin ⊢
  obtain ⟨N, hN⟩ : ∃ N, sc.length = N := ⟨_, rfl⟩
  have htl : (textI t sc).length = N := by rw [textI_len, hN]
  have hti : TextI t (textI t sc) := textI_in hT (fun x hx => (hscin x hx).1)
  have htr := text_range t sc
  rw [hN] at hlen hcall htr ⊢
  obtain ⟨M, hM⟩ : ∃ M, M = N + 1 := ⟨_, rfl⟩
  rw [<- hM]
  have HW0 := Lib.hid hW0; have HX0 := Lib.hid hx0; have HB0 := Lib.hid hb0; have HN := Lib.hid hN; have HRT := Lib.hid hT; have HB := Lib.hid hB; have HTAB := Lib.hid ht; have HCALL := Lib.hid hcall; have HTL := Lib.hid htl; have HTI := Lib.hid hti; have HTR := Lib.hid htr; have HM := Lib.hid hM
  clear hsce ht hT hW0 hx0 hb0 hN hB hcall htl hti htr hM hn0 hn1 hscin
  go_enter Try.func47, Try.ntmps47
  unfold tabV
  go_wp2_with fail
  rw [HW0.out]
  simp only [HB.out]
  have c0 := HX0.out.cell 0; have c1 := HX0.out.cell 1; have c2 := HX0.out.cell 2; have c3 := HX0.out.cell 3; have c4 := HX0.out.cell 4; have c5 := HX0.out.cell 5
  simp only [List.getElem?_toArray, List.getElem?_cons_zero, List.getElem?_cons_succ] at c0 c1 c2 c3 c4 c5
  go_wp2_with fail
  refine HCALL.out.mono ?_
  rintro e w1 ⟨g, rfl, hg1, hg2, hb1⟩
  have hx1 := Blk.below HX0.out hb1 HX0.out.lt
  have hbw1 : Below w.heap.size w w1 := HB0.out.trans (hb1.mono HB0.out.size)
  have hwg : w.heap.size <= g := Nat.le_trans HB0.out.size hg1
  have hr := icells_reads hg2 (by omega)
  rw [HTR.out] at hr
  have HX1 := Lib.hid hx1; have HBW := Lib.hid hbw1; have HR := Lib.hid hr
  clear hx1 hbw1 hg1 hg2 hb1 hr c0 c1 c2 c3 c4 c5
  go_wp2_with fail
  have hS : (fun W : World => W.cell? ⟨B, 2, none⟩ = some (.slice A2 n2 k2) /\ W.cell? ⟨B, 3, none⟩ = some (.slice A3 n3 k3) /\ W.cell? ⟨B, 4, none⟩ = some (.slice A4 n4 k4) /\ W.cell? ⟨B, 5, none⟩ = some (.slice A5 n5 k5)) w1.drew := ⟨HX1.out.cell 2, HX1.out.cell 3, HX1.out.cell 4, HX1.out.cell 5⟩
  refine region_x 10 (fun W : World => W.cell? ⟨B, 2, none⟩ = some (.slice A2 n2 k2) /\ W.cell? ⟨B, 3, none⟩ = some (.slice A3 n3 k3) /\ W.cell? ⟨B, 4, none⟩ = some (.slice A4 n4 k4) /\ W.cell? ⟨B, 5, none⟩ = some (.slice A5 n5 k5)) (by kernel_rfl) ?_
  have HX2 : Hid (Blk w1.drew B 75 #[.slice A0 n0 k0, .slice A1 n1 k1, .slice A2 n2 k2, .slice A3 n3 k3, .slice A4 n4 k4, .slice A5 n5 k5]) := HX1
  have HB2 : Hid (Below w.heap.size w w1.drew) := Lib.hid HBW.out.drew
  have HR2 : Hid (ReadsI w1.drew (sl g N N) N (textI t sc)) := HR
  clear HX1 HBW HR
  generalize w1.drew = V0 at *
  obtain ⟨d2, d3, d4, d5⟩ := hS
  refine tkx (i := 0) (v := ?_) ⟨d2, d3, d4, d5⟩ ?_ ?_
  rotate_left
  ·rintro w' ⟨d2', d3', d4', d5'⟩
   go_simp
   try with_reducible rfl
  try simp only [Act.put, zq1, zq2, zq3, zq4, zq5, zq6]
  refine tkx (i := 1) (v := ?_) ⟨d2, d3, d4, d5⟩ ?_ ?_
  rotate_left
  ·rintro w' ⟨d2', d3', d4', d5'⟩
   go_simp
   try with_reducible rfl
  try simp only [Act.put, zq1, zq2, zq3, zq4, zq5, zq6]
  refine tkx (i := 2) (v := ?_) ⟨d2, d3, d4, d5⟩ ?_ ?_
  rotate_left
  ·rintro w' ⟨d2', d3', d4', d5'⟩
   go_simp
   try with_reducible rfl
  try simp only [Act.put, zq1, zq2, zq3, zq4, zq5, zq6]
  refine tkx (i := 3) (v := ?_) ⟨d2, d3, d4, d5⟩ ?_ ?_
  rotate_left
  ·rintro w' ⟨d2', d3', d4', d5'⟩
   go_simp
   try with_reducible rfl
  try simp only [Act.put, zq1, zq2, zq3, zq4, zq5, zq6]
  refine tkx (i := 4) (v := ?_) ⟨d2, d3, d4, d5⟩ ?_ ?_
  rotate_left
  ·rintro w' ⟨d2', d3', d4', d5'⟩
   go_simp
   try with_reducible rfl
  try simp only [Act.put, zq1, zq2, zq3, zq4, zq5, zq6]
  refine tkx (i := 5) (v := ?_) ⟨d2, d3, d4, d5⟩ ?_ ?_
  rotate_left
  ·rintro w' ⟨d2', d3', d4', d5'⟩
   go_simp
   try with_reducible rfl
  try simp only [Act.put, zq1, zq2, zq3, zq4, zq5, zq6]
  refine tkx (i := 6) (v := ?_) ⟨d2, d3, d4, d5⟩ ?_ ?_
  rotate_left
  ·rintro w' ⟨d2', d3', d4', d5'⟩
   go_simp
   try with_reducible rfl
  try simp only [Act.put, zq1, zq2, zq3, zq4, zq5, zq6]
  refine tkx (i := 7) (v := ?_) ⟨d2, d3, d4, d5⟩ ?_ ?_
  rotate_left
  ·rintro w' ⟨d2', d3', d4', d5'⟩
   go_simp
   try with_reducible rfl
  try simp only [Act.put, zq1, zq2, zq3, zq4, zq5, zq6]
  refine anyX_g (i := 8) (by kernel_rfl) (by decide) rfl (by rfl) ?_
  intro K hK
  try simp only [zq1, zq2, zq3]
  have hcnt := cntL_le_len t.letters
  have hll := HRT.out.lets
  have hlc := HRT.out.len
  have hback := brun_any (k := cntL t.letters) (HTAB.out.bn.below HB2.out) (by rw [<- HRT.out.outs.1]; exact HTAB.out.bo.below HB2.out) HRT.out.back HR2.out HM.out HTI.out (by omega) (by omega)
  refine wp_enterE #[.agg #[.slice A2 n2 k2, .slice A3 n3 k3], sl g N N] Try.func66 (by kernel_rfl) (by kernel_rfl) ?_ hback ?_
  ·go_simp
  rintro e V1 ⟨g2, rfl, hg3, hg4, hb3⟩
  clear hback
  refine ⟨_, rfl, ?_⟩
  have hx3 := Blk.below HX2.out hb3 HX2.out.lt
  refine hK _ _ ⟨hx3.cell 2, hx3.cell 3, hx3.cell 4, hx3.cell 5⟩ ?_
  clear hK
  try simp only [Act.put, zq1, zq2, zq3, zq4, zq5, zq6]
  refine anyX_g (i := 9) (by kernel_rfl) (by decide) rfl (by rfl) ?_
  intro K hK
  try simp only [zq1, zq2, zq3]
  have hb4 : Below w.heap.size w V1 := HB2.out.trans (hb3.mono HB2.out.size)
  have hO : (List.range M).map (fun i => t.bo.getD (bakI t.bn (textI t sc) i).toNat 0) = outsI_ t (textI t sc) := outs_range t _ (by rw [HTL.out]; exact HM.out)
  have hro := icells_reads hg4 (by have := HM.out; omega)
  rw [hO] at hro
  have hfwd := frun_any (k := cntL t.letters) (HTAB.out.fn.below hb4) (HTAB.out.fe.below hb4) HRT.out.fwd HRT.out.emits.1 (HR2.out.below hb3) hro HM.out HTI.out (fun i hi => by
   rw [outsI_at_ t (by rw [HTL.out]; exact hi)]
   have h1 := outI_in HRT.out HTI.out i
   have h2 := emit_row HRT.out HTI.out i
   omega) (by omega) (by omega)
  have hvc : vcells M (runF t.fn t.fe (textI t sc) (outsI_ t (textI t sc))) = vcells M (segV t (textI t sc)) := vcells_congr (fun i hi => by
   unfold runF segV
   rw [outsI_at_ t (by rw [HTL.out]; have := HM.out; omega)])
  rw [hvc] at hfwd
  refine wp_enterE #[.agg #[.slice A4 n4 k4, .slice A5 n5 k5], sl g N N, sl g2 M M] Try.func65 (by kernel_rfl) (by kernel_rfl) ?_ hfwd ?_
  ·go_simp
  rintro e V2 ⟨g3, rfl, hg5, hg6, hb5⟩
  clear hfwd
  refine ⟨_, rfl, ?_⟩
  have hx4 := Blk.below hx3 hb5 hx3.lt
  refine hK _ _ ⟨hx4.cell 2, hx4.cell 3, hx4.cell 4, hx4.cell 5⟩ ?_
  clear hK
  try simp only [Act.put, zq1, zq2, zq3, zq4, zq5, zq6]
  refine anyX_last (by kernel_rfl) (by kernel_rfl) rfl rfl ?_
  try simp only [zq1, zq2, zq3]
  go_simp
  try apply_assumption
  go_wp2_with fail
  go_ret
  exact ⟨g3, rfl, Nat.le_trans (Nat.le_trans hb4.size (Nat.le_refl _)) hg5, hg6, hb4.trans (hb5.mono hb4.size)⟩
end Go.Proofs.Ytacgakkcpmhgmaa
namespace Go.Proofs.Ytacgakkcpmhgmaa
open Go Go.RowKit Go.Proofs
theorem vcells_reads {w : World} {g N : Nat} {f : Nat -> V3} (h : Blk w g 51 (vcells N f)) (hN : N <= 1000000) : ReadsE encV 3 w (sl g N N) N ((List.range N).map f) :=
 ⟨by simp, _, N, rfl, Nat.le_refl _, by unfold maxLen; omega, (fun e => by cases e), fun i x hi => ⟨g, 0, rfl, fun j u hu => by
  have hiN : i < N := by
   rcases Nat.lt_or_ge i N with h1 | h1
   ·exact h1
   ·rw [List.getElem?_eq_none (by simpa using h1)] at hi; cases hi
  have hx : f i = x := by simpa [hiN] using hi
  have hj : j < 3 := by
   rcases Nat.lt_or_ge j 3 with h1 | h1
   ·exact h1
   ·rw [List.getElem?_eq_none (by rw [encV_len]; exact h1)] at hu; cases hu
  rw [Nat.zero_add, h.cell, vcells_at f hiN hj, hx]
  exact hu⟩⟩
def RowNew (w : World) (B : Nat) (v : Value) (l : List V3) : Prop := ∃ A cap, v = .slice A l.length cap /\ ReadsE encV 3 w (.slice A l.length cap) l.length l /\ ∀ p, A = some p -> B <= p.block /\ p.block < w.heap.size
theorem RowNew.nil (w : World) (B : Nat) : RowNew w B (.slice none 0 0) [] := ⟨none, 0, rfl, ReadsE.nil w, fun p h => by cases h⟩
theorem RowNew.below {w w' : World} {B : Nat} {v : Value} {l : List V3} (h : RowNew w B v l) (hb : Below w.heap.size w w') : RowNew w' B v l := by
 obtain ⟨A, cap, e, h1, h2⟩ := h
 exact ⟨A, cap, e, h1.below hb, fun p hp => ⟨(h2 p hp).1, Nat.lt_of_lt_of_le (h2 p hp).2 hb.size⟩⟩
theorem segL_range (t : Tab) {l : List Int} {m : Nat} (h : m = l.length + 1) : (List.range m).map (segV t l) = segL t l := by rw [h]; rfl
noncomputable def segR (t : Tab) (s : ByteArray) : List V3 × Int := @ite _ (RightT t) (Classical.propDecidable _) (if s.size <= 4000 then (segL t (textI t (scs s.data.toList)), 0) else ([], 6)) ([], 5)
theorem segR_ok {t : Tab} {s : ByteArray} (h : RightT t) (hs : s.size <= 4000) : segR t s = (segL t (textI t (scs s.data.toList)), 0) := by unfold segR; rw [if_pos h, if_pos hs]
theorem segR_long {t : Tab} {s : ByteArray} (h : RightT t) (hs : ¬ s.size <= 4000) : segR t s = ([], 6) := by unfold segR; rw [if_pos h, if_neg hs]
theorem segR_bad {t : Tab} {s : ByteArray} (h : ¬ RightT t) : segR t s = ([], 5) := by unfold segR; rw [if_neg h]
def SegO (w : World) (r : List V3 × Int) (e : Ending) (w' : World) : Prop := ∃ v, e = .returned (.tuple #[v, .int .i64 r.2]) /\ RowNew w' w.heap.size v r.1 /\ Below w.heap.size w w'
theorem segment_any {w : World} {vc vl vbn vbo vfn vfe : Value} {t : Tab} (ht : TabR w vc vl vbn vbo vfn vfe t) (s : ByteArray) :
  Calls Try.prog 18 #[tabV vc vl vbn vbo vfn vfe, .string s] w (SegO w (segR t s)) := by
  obtain ⟨A0, k0, e0, p0, q0, -⟩ := ht.c.form
  obtain ⟨A1, k1, e1, p1, q1, -⟩ := ht.l.form
  obtain ⟨n2, A2, k2, e2, p2, q2⟩ : ∃ n A k, vbn = .slice A n k /\ n <= k /\ k <= 9223372036854775807 := by obtain ⟨A, k, h⟩ := ht.bn.form; exact ⟨_, A, k, h⟩
  obtain ⟨n3, A3, k3, e3, p3, q3⟩ : ∃ n A k, vbo = .slice A n k /\ n <= k /\ k <= 9223372036854775807 := by obtain ⟨A, k, h1, h2, h3, -⟩ := ht.bo.form; exact ⟨_, A, k, h1, h2, h3⟩
  obtain ⟨n4, A4, k4, e4, p4, q4⟩ : ∃ n A k, vfn = .slice A n k /\ n <= k /\ k <= 9223372036854775807 := by obtain ⟨A, k, h⟩ := ht.fn.form; exact ⟨_, A, k, h⟩
  obtain ⟨n5, A5, k5, e5, p5, q5⟩ : ∃ n A k, vfe = .slice A n k /\ n <= k /\ k <= 9223372036854775807 := by obtain ⟨A, k, h⟩ := ht.fe.form; exact ⟨_, A, k, h⟩
  obtain ⟨n0, hn0⟩ : ∃ n, t.cuts.length = n := ⟨_, rfl⟩
  obtain ⟨n1, hn1⟩ : ∃ n, t.letters.length = n := ⟨_, rfl⟩
  rw [hn0] at e0; rw [hn1] at e1
  subst e0 e1 e2 e3 e4 e5
  obtain ⟨B, hB⟩ : ∃ B, w.heap.size = B := ⟨_, rfl⟩
  obtain ⟨W0, hW0⟩ : ∃ W, w.alloc (.cells #[.slice A0 n0 k0, .slice A1 n1 k1, .slice A2 n2 k2, .slice A3 n3 k3, .slice A4 n4 k4, .slice A5 n5 k5] 32) = W := ⟨_, rfl⟩
  have hx0 : Blk W0 B 32 #[.slice A0 n0 k0, .slice A1 n1 k1, .slice A2 n2 k2, .slice A3 n3 k3, .slice A4 n4 k4, .slice A5 n5 k5] := by rw [<- hW0]; exact sblk_new _ hB _ _
  have hb0 : Below w.heap.size w W0 := by rw [<- hW0]; exact (Below.refl _ _).alloc (Nat.le_refl _) _
  have hcall := tright_any (ht.below hb0)
  obtain ⟨N, hN⟩ : ∃ N, s.size = N := ⟨_, rfl⟩
  have HW0 := Lib.hid hW0; have HX0 := Lib.hid hx0; have HB0 := Lib.hid hb0; have HN := Lib.hid hN; have HB := Lib.hid hB; have HTAB := Lib.hid ht; have HCALL := Lib.hid hcall
  clear ht hW0 hx0 hb0 hN hB hcall hn0 hn1
  go_enter Try.func18, Try.ntmps18
  unfold tabV
  go_wp2_with fail
  rw [HW0.out]
  simp only [HB.out]
  have c0 := HX0.out.cell 0; have c1 := HX0.out.cell 1; have c2 := HX0.out.cell 2; have c3 := HX0.out.cell 3; have c4 := HX0.out.cell 4; have c5 := HX0.out.cell 5
  simp only [List.getElem?_toArray, List.getElem?_cons_zero, List.getElem?_cons_succ] at c0 c1 c2 c3 c4 c5
  go_wp2_with fail
  refine HCALL.out.mono ?_
  rintro e w1 ⟨b, rfl, hbr, hb1⟩
  have HBR := Lib.hid hbr
  have hx1 := Blk.below HX0.out hb1 HX0.out.lt
  have HX1 := Lib.hid hx1
  have HBW : Hid (Below w.heap.size w w1) := Lib.hid (HB0.out.trans (hb1.mono HB0.out.size))
  clear hbr hb1 hx1 c0 c1 c2 c3 c4 c5
  cases b with
  | false =>
    have hnr : ¬ RightT t := fun h => by have := HBR.out.2 h; cases this
    clear HBR HCALL
    go_wp2_with fail
    refine bodyPost_ret (v := .tuple #[.slice none 0 0, .int .i64 5]) (by simp [results, Try.results18, go_sem]) rfl ?_
    exact ⟨_, by rw [segR_bad hnr], by rw [segR_bad hnr]; exact RowNew.nil _ _, HBW.out⟩
  | true =>
    have hR : RightT t := HBR.out.1 rfl
    have HRT := Lib.hid hR
    clear HBR hR HCALL
    by_cases hlong : N <= 4000
    rotate_left
    ·have l1 : (4000 : Int) < (N : Int) := by omega
     have hN1 := HN.out
     go_wp2_with fail
     refine bodyPost_ret (v := .tuple #[.slice none 0 0, .int .i64 6]) (by simp [results, Try.results18, go_sem]) rfl ?_
     have hs : ¬ s.size <= 4000 := by rw [HN.out]; exact hlong
     exact ⟨_, by rw [segR_long HRT.out hs], by rw [segR_long HRT.out hs]; exact RowNew.nil _ _, HBW.out⟩
    ·have l1 : ¬ (4000 : Int) < (N : Int) := by omega
     have hN1 := HN.out
     have c0 := HX1.out.cell 0; have c1 := HX1.out.cell 1; have c2 := HX1.out.cell 2; have c3 := HX1.out.cell 3; have c4 := HX1.out.cell 4; have c5 := HX1.out.cell 5
     simp only [List.getElem?_toArray, List.getElem?_cons_zero, List.getElem?_cons_succ] at c0 c1 c2 c3 c4 c5
     have hrun := srun_any (HTAB.out.below HBW.out) HRT.out s (by omega)
     have HRUN := Lib.hid hrun
     clear hrun
     unfold tabV at HRUN
     go_wp2_with fail
     refine HRUN.out.mono ?_
     rintro e w2 ⟨g, rfl, hg1, hg2, hb2⟩
     have hlen := scs_length_le s.data.toList
     have hsz : s.data.toList.length = s.size := rfl
     rw [hsz] at hlen
     have hs4 : s.size <= 4000 := by rw [HN.out]; exact hlong
     have hr := vcells_reads hg2 (by omega)
     rw [segL_range t (by rw [textI_len])] at hr
     obtain ⟨M, hM⟩ : ∃ M, (scs s.data.toList).length + 1 = M := ⟨_, rfl⟩
     have hml : (segL t (textI t (scs s.data.toList))).length = M := by rw [segL_len, textI_len, hM]
     rw [hM] at hr ⊢
     have HR := Lib.hid hr; have HB2 := Lib.hid hb2; have HG := Lib.hid hg1; have HGL := Lib.hid hg2.lt; have HML := Lib.hid hml
     clear hg2 hb2 hg1 hr hM hlen hsz hml c0 c1 c2 c3 c4 c5
     go_wp2_with fail
     refine bodyPost_ret (v := .tuple #[.slice (some ⟨g, 0, none⟩) M M, .int .i64 0]) (by simp [results, Try.results18, go_sem]) rfl ?_
     refine ⟨_, by rw [segR_ok HRT.out hs4], ?_, HBW.out.trans (HB2.out.mono HBW.out.size)⟩
     rw [segR_ok HRT.out hs4]
     exact ⟨some ⟨g, 0, none⟩, M, by dsimp only; rw [HML.out], by dsimp only; rw [HML.out]; exact HR.out, fun p h => by cases h; exact ⟨Nat.le_trans HBW.out.size HG.out, HGL.out⟩⟩
def NewO (w : World) (l : List V3) (e : Ending) (w' : World) : Prop := ∃ b A cap, e = .returned (.pointer (some ⟨b, 0, none⟩)) /\ CurS w' b A cap l 0 /\ w.heap.size <= b /\ Below w.heap.size w w'
theorem snew_any {w : World} {vc vl vbn vbo vfn vfe : Value} {t : Tab} (ht : TabR w vc vl vbn vbo vfn vfe t) (s : ByteArray) :
  Calls Try.prog 23 #[tabV vc vl vbn vbo vfn vfe, .string s] w (NewO w (segR t s).1) := by
  obtain ⟨A0, k0, e0, p0, q0, -⟩ := ht.c.form
  obtain ⟨A1, k1, e1, p1, q1, -⟩ := ht.l.form
  obtain ⟨n2, A2, k2, e2, p2, q2⟩ : ∃ n A k, vbn = .slice A n k /\ n <= k /\ k <= 9223372036854775807 := by obtain ⟨A, k, h⟩ := ht.bn.form; exact ⟨_, A, k, h⟩
  obtain ⟨n3, A3, k3, e3, p3, q3⟩ : ∃ n A k, vbo = .slice A n k /\ n <= k /\ k <= 9223372036854775807 := by obtain ⟨A, k, h1, h2, h3, -⟩ := ht.bo.form; exact ⟨_, A, k, h1, h2, h3⟩
  obtain ⟨n4, A4, k4, e4, p4, q4⟩ : ∃ n A k, vfn = .slice A n k /\ n <= k /\ k <= 9223372036854775807 := by obtain ⟨A, k, h⟩ := ht.fn.form; exact ⟨_, A, k, h⟩
  obtain ⟨n5, A5, k5, e5, p5, q5⟩ : ∃ n A k, vfe = .slice A n k /\ n <= k /\ k <= 9223372036854775807 := by obtain ⟨A, k, h⟩ := ht.fe.form; exact ⟨_, A, k, h⟩
  obtain ⟨n0, hn0⟩ : ∃ n, t.cuts.length = n := ⟨_, rfl⟩
  obtain ⟨n1, hn1⟩ : ∃ n, t.letters.length = n := ⟨_, rfl⟩
  rw [hn0] at e0; rw [hn1] at e1
  subst e0 e1 e2 e3 e4 e5
  obtain ⟨B, hB⟩ : ∃ B, w.heap.size = B := ⟨_, rfl⟩
  obtain ⟨W0, hW0⟩ : ∃ W, w.alloc (.cells #[.slice A0 n0 k0, .slice A1 n1 k1, .slice A2 n2 k2, .slice A3 n3 k3, .slice A4 n4 k4, .slice A5 n5 k5] 32) = W := ⟨_, rfl⟩
  have hx0 : Blk W0 B 32 #[.slice A0 n0 k0, .slice A1 n1 k1, .slice A2 n2 k2, .slice A3 n3 k3, .slice A4 n4 k4, .slice A5 n5 k5] := by rw [<- hW0]; exact sblk_new _ hB _ _
  have hb0 : Below w.heap.size w W0 := by rw [<- hW0]; exact (Below.refl _ _).alloc (Nat.le_refl _) _
  have hcall := segment_any (ht.below hb0) s
  obtain ⟨⟨L, er⟩, hL⟩ : ∃ r, segR t s = r := ⟨_, rfl⟩
  rw [hL] at hcall ⊢
  unfold tabV at hcall
  have HW0 := Lib.hid hW0; have HX0 := Lib.hid hx0; have HB0 := Lib.hid hb0; have HB := Lib.hid hB; have HCALL := Lib.hid hcall
  clear ht hW0 hx0 hb0 hB hcall hn0 hn1 hL
  go_enter Try.func23, Try.ntmps23
  unfold tabV
  go_wp2_with fail
  rw [HW0.out]
  simp only [HB.out]
  have c0 := HX0.out.cell 0; have c1 := HX0.out.cell 1; have c2 := HX0.out.cell 2; have c3 := HX0.out.cell 3; have c4 := HX0.out.cell 4; have c5 := HX0.out.cell 5
  simp only [List.getElem?_toArray, List.getElem?_cons_zero, List.getElem?_cons_succ] at c0 c1 c2 c3 c4 c5
  go_wp2_with fail
  refine HCALL.out.mono ?_
  rintro e w1 ⟨v, rfl, ⟨A, cap, rfl, hr, hf⟩, hb1⟩
  dsimp only at hr ⊢
  obtain ⟨n, hn⟩ : ∃ n, L.length = n := ⟨_, rfl⟩
  have hbw1 : Below w.heap.size w w1 := HB0.out.trans (hb1.mono HB0.out.size)
  have hf1 : ∀ p, A = some p -> p.block ≠ w1.heap.size := fun p hp e => by
   have := (hf p hp).2
   omega
  have HR := Lib.hid hr; have HN := Lib.hid hn; have HBW := Lib.hid hbw1; have HF := Lib.hid hf1
  rw [hn]
  clear hr hn hf hb1 hbw1 hf1 c0 c1 c2 c3 c4 c5
  go_wp2_with fail
  go_ret
  refine ⟨w1.heap.size, A, cap, rfl, ⟨?_, HR.out.alloc _, HF.out⟩, HBW.out.size, HBW.out.alloc HBW.out.size _⟩
  rw [HN.out]
  exact Blk.new _ _ _
end Go.Proofs.Ytacgakkcpmhgmaa
namespace Go.Proofs.Ytacgakkcpmhgmaa
open Go Go.RowKit Go.Proofs
def sveq (a b c x y z : Int) : Bool := a == x && b == y && c == z
theorem sveq_iff (a b c x y z : Int) : sveq a b c x y z = true ↔ (a, b, c) = (x, y, z) := by
 unfold sveq; simp [and_assoc]
theorem sveq_refl (a b c : Int) : sveq a b c a b c = true := (sveq_iff a b c a b c).2 rfl
theorem seqVec (a b c x y z : Int) (w : World) : (Op.equalIn 10000 51 (.agg #[.int .i64 a, .int .i64 b, .int .i64 c]) (.agg #[.int .i64 x, .int .i64 y, .int .i64 z])).run Try.prog w = .ok (sveq a b c x y z) w := by
 have u3 := Try.underlying3
 have a3 := Try.isAgg3
 have z3 := Try.sizeOf3
 rw [show (10000 : Nat) = 9999 + 1 from rfl, Op.equalIn]
 simp only [Sem.run_bind, run_underlying Try.underlying51, Result.andThen_ok]
 simp only [Std.Legacy.Range.forIn_eq_forIn_range', Std.Legacy.Range.size, Nat.sub_zero, Nat.add_sub_cancel, Nat.div_one, List.range'_succ, List.range'_zero, List.forIn_cons, List.forIn_nil]
 unfold sveq
 go_simp
 by_cases h1 : a = x <;> by_cases h2 : b = y <;> by_cases h3 : c = z <;> simp [h1, h2, h3]
def knownS : Tab := ⟨[0], [0], [[0]], [0], [[1], [1]], [[(1, 2, 3)], [(4, 5, 1152921504606846976)]]⟩
theorem knownS_right : RightT knownS := by
 refine (rightT_parts _).2 ⟨⟨⟨by decide, by decide⟩, rfl, ⟨fun i hi => by simp [knownS] at hi, rfl, fun x hx => ?_⟩, fun i hi => ?_⟩, ⟨lead_one, rfl, fun o ho => ?_⟩, ⟨by decide, by decide, fun r hr => ?_⟩, rfl, fun r hr => ?_⟩
 ·simp only [knownS, List.mem_singleton] at hx
  subst hx
  decide
 ·have : i = 0 := by simp [knownS] at hi; omega
  subst this
  exact ⟨by decide, by decide⟩
 ·simp only [knownS, List.mem_singleton] at ho
  subst ho
  decide
 ·simp only [knownS, List.mem_cons, List.not_mem_nil, or_false, or_self] at hr
  subst hr
  exact ⟨rfl, fun x hx => by simp only [List.mem_singleton] at hx; subst hx; decide⟩
 ·simp only [knownS, List.mem_cons, List.not_mem_nil, or_false] at hr
  rcases hr with hr | hr <;> subst hr <;> refine ⟨by decide, fun v hv => ?_⟩ <;> simp only [List.mem_singleton] at hv <;> subst hv <;> unfold CostV <;> decide
def knownL : List V3 := [(1, 2, 3), (4, 5, 1152921504606846976), (4, 5, 1152921504606846976)]
theorem knownS_seg : segR knownS { data := #[97, 98] } = (knownL, 0) := by
 rw [segR_ok knownS_right (by decide)]
 have e : scs [97, 98] = [97, 98] := by
  rw [scs_cons _ (by decide)]
  show 97 :: scs [98] = _
  rw [scs_cons _ (by decide)]
  rfl
 show (segL knownS (textI knownS (scs [97, 98])), (0 : Int)) = _
 rw [e]
 rfl
theorem knownL_best : bestI knownL 0 2 0 = (0, true) := by decide
theorem rowsI_two {w : World} {b : Nat} {u v : Value} {l m : List Int} {t : TypeId} (h : Blk w b t #[u, v]) (hu : ReadsI w u l.length l) (hv : ReadsI w v m.length m) : RowsI w (.slice (some ⟨b, 0, none⟩) 2 2) [l, m] :=
 ⟨_, 2, rfl, Nat.le_refl _, by unfold maxLen; omega, (fun e => by cases e), fun i hi => by
  have hi1 : i < 2 := hi
  rcases (show i = 0 \/ i = 1 by omega) with rfl | rfl
  ·exact ⟨b, 0, u, rfl, h.cell 0, hu⟩
  ·exact ⟨b, 0, v, rfl, h.cell 1, hv⟩⟩
theorem emitR_two {w : World} {b : Nat} {u v : Value} {l m : List V3} {t : TypeId} (h : Blk w b t #[u, v]) (hu : ReadsE encV 3 w u l.length l) (hv : ReadsE encV 3 w v m.length m) : EmitR w (.slice (some ⟨b, 0, none⟩) 2 2) [l, m] :=
 ⟨_, 2, rfl, Nat.le_refl _, by unfold maxLen; omega, (fun e => by cases e), fun i hi => by
  have hi1 : i < 2 := hi
  rcases (show i = 0 \/ i = 1 by omega) with rfl | rfl
  ·exact ⟨b, 0, u, rfl, h.cell 0, hu⟩
  ·exact ⟨b, 0, v, rfl, h.cell 1, hv⟩⟩
theorem knownS_tab (w : World) : ∃ W, ((((((((((w.alloc (.cells #[.int .i64 0] 3)).alloc (.cells #[.int .i64 0] 3)).alloc (.cells #[.int .i64 0] 3)).alloc (.cells #[.slice (some ⟨w.heap.size + 1 + 1, 0, none⟩) 1 1] 22)).alloc (.cells #[.int .i64 0] 3)).alloc (.cells #[.int .i64 1] 3)).alloc (.cells #[.int .i64 1] 3)).alloc (.cells #[.slice (some ⟨w.heap.size + 1 + 1 + 1 + 1 + 1, 0, none⟩) 1 1, .slice (some ⟨w.heap.size + 1 + 1 + 1 + 1 + 1 + 1, 0, none⟩) 1 1] 22)).alloc (.cells #[.int .i64 1, .int .i64 2, .int .i64 3] 51)).alloc (.cells #[.int .i64 4, .int .i64 5, .int .i64 1152921504606846976] 51)).alloc (.cells #[.slice (some ⟨w.heap.size + 1 + 1 + 1 + 1 + 1 + 1 + 1 + 1, 0, none⟩) 1 1, .slice (some ⟨w.heap.size + 1 + 1 + 1 + 1 + 1 + 1 + 1 + 1 + 1, 0, none⟩) 1 1] 36) = W /\ Below w.heap.size w W /\ W.heap.size = w.heap.size + 1 + 1 + 1 + 1 + 1 + 1 + 1 + 1 + 1 + 1 + 1 /\
  TabR W (.slice (some ⟨w.heap.size, 0, none⟩) 1 1) (.slice (some ⟨w.heap.size + 1, 0, none⟩) 1 1) (.slice (some ⟨w.heap.size + 1 + 1 + 1, 0, none⟩) 1 1) (.slice (some ⟨w.heap.size + 1 + 1 + 1 + 1, 0, none⟩) 1 1) (.slice (some ⟨w.heap.size + 1 + 1 + 1 + 1 + 1 + 1 + 1, 0, none⟩) 2 2) (.slice (some ⟨w.heap.size + 1 + 1 + 1 + 1 + 1 + 1 + 1 + 1 + 1 + 1, 0, none⟩) 2 2) knownS := by
  refine ⟨_, rfl, ?_, by simp, ?_⟩
  ·exact ((((((((((((Below.refl _ _).alloc (by simp) _).alloc (by simp) _).alloc (by simp; omega) _).alloc (by simp; omega) _).alloc (by simp; omega) _).alloc (by simp; omega) _).alloc (by simp; omega) _).alloc (by simp; omega) _).alloc (by simp; omega) _).alloc (by simp; omega) _).alloc (by simp; omega) _)
  ·have r1 : ∀ {W : World} {b : Nat} {x : Int}, Blk W b 3 #[.int .i64 x] -> ReadsI W (.slice (some ⟨b, 0, none⟩) 1 1) 1 [x] := fun h => readsI_new (h.cell 0)
   refine ⟨r1 ?_, r1 ?_, rowsI_one (u := .slice (some ⟨w.heap.size + 1 + 1, 0, none⟩) 1 1) (t := 22) ?_ (r1 ?_), r1 ?_, rowsI_two (u := .slice (some ⟨w.heap.size + 1 + 1 + 1 + 1 + 1, 0, none⟩) 1 1) (v := .slice (some ⟨w.heap.size + 1 + 1 + 1 + 1 + 1 + 1, 0, none⟩) 1 1) (t := 22) ?_ (r1 ?_) (r1 ?_), emitR_two (u := .slice (some ⟨w.heap.size + 1 + 1 + 1 + 1 + 1 + 1 + 1 + 1, 0, none⟩) 1 1) (v := .slice (some ⟨w.heap.size + 1 + 1 + 1 + 1 + 1 + 1 + 1 + 1 + 1, 0, none⟩) 1 1) (t := 36) ?_ (vec_one (t := 51) ?_) (vec_one (t := 51) ?_)⟩
   all_goals (repeat (first | (refine Blk.newAt _ ?_ _ _; simp; done) | refine Blk.alloc ?_ _))
theorem sknown_any (w : World) : Calls Try.prog 15 #[] w fun e w' => e = .returned (.bool true) /\ Below w.heap.size w w' := by
 have hn0 := segment_any (noT_tab w) { data := #[97] }
 rw [segR_bad noT_not] at hn0
 have HN0 := Lib.hid hn0
 clear hn0
 unfold tabV at HN0
 go_enter Try.func15, Try.ntmps15
 go_wp2_with fail
 refine HN0.out.mono ?_
 rintro e w1 ⟨v, rfl, ⟨A, cap, rfl, -, -⟩, hb1⟩
 simp only [List.length_nil]
 clear HN0
 have HB1 := Lib.hid hb1
 obtain ⟨V0, hV0, hb0, hz0, ht0⟩ := knownS_tab w1
 obtain ⟨s0, hs0⟩ : ∃ s, w1.heap.size = s := ⟨_, rfl⟩
 rw [hs0] at hV0 hz0 ht0
 obtain ⟨bt, hbt⟩ : ∃ b, s0 + 1 + 1 + 1 + 1 + 1 + 1 + 1 + 1 + 1 + 1 + 1 = b := ⟨_, rfl⟩
 rw [hbt] at hz0
 obtain ⟨V1, hV1⟩ : ∃ W, V0.alloc (.cells #[.slice (some ⟨s0, 0, none⟩) 1 1, .slice (some ⟨s0 + 1, 0, none⟩) 1 1, .slice (some ⟨s0 + 1 + 1 + 1, 0, none⟩) 1 1, .slice (some ⟨s0 + 1 + 1 + 1 + 1, 0, none⟩) 1 1, .slice (some ⟨s0 + 1 + 1 + 1 + 1 + 1 + 1 + 1, 0, none⟩) 2 2, .slice (some ⟨s0 + 1 + 1 + 1 + 1 + 1 + 1 + 1 + 1 + 1 + 1, 0, none⟩) 2 2] 32) = W := ⟨_, rfl⟩
 have hb11 : Below V0.heap.size V0 V1 := by rw [<- hV1]; exact (Below.refl _ _).alloc (Nat.le_refl _) _
 have XT : Hid (Blk V1 bt 32 #[.slice (some ⟨s0, 0, none⟩) 1 1, .slice (some ⟨s0 + 1, 0, none⟩) 1 1, .slice (some ⟨s0 + 1 + 1 + 1, 0, none⟩) 1 1, .slice (some ⟨s0 + 1 + 1 + 1 + 1, 0, none⟩) 1 1, .slice (some ⟨s0 + 1 + 1 + 1 + 1 + 1 + 1 + 1, 0, none⟩) 2 2, .slice (some ⟨s0 + 1 + 1 + 1 + 1 + 1 + 1 + 1 + 1 + 1 + 1, 0, none⟩) 2 2]) := Lib.hid (by rw [<- hV1]; exact Blk.newAt _ hz0 _ _)
 have HT := Lib.hid (ht0.below hb11)
 have hbV := hb0.trans (hb11.mono hb0.size)
 have HB2 := Lib.hid (hb1.trans (hbV.mono hb1.size))
 have HV0 := Lib.hid hV0; have HV1 := Lib.hid hV1; have HS0 := Lib.hid hs0; have HBT := Lib.hid hbt
 clear hV0 hb0 hz0 ht0 hV1 hb1 hs0 hbt hb11 hbV HB1
 go_wp2_with fail
 try simp only [HS0.out]
 rw [HV0.out]
 try simp only [HBT.out]
 rw [HV1.out]
 have hseg := segment_any HT.out { data := #[97, 98] }
 rw [knownS_seg] at hseg
 refine hseg.mono ?_
 rintro e V2 ⟨v, rfl, ⟨AL, cL, rfl, hL, -⟩, hb⟩
 dsimp only at hL ⊢
 have hl3 : knownL.length = 3 := rfl
 rw [hl3] at hL ⊢
 obtain ⟨g, o, eA, -, hc⟩ := hL.at encV_len (by decide) 1 (4, 5, 1152921504606846976) rfl
 subst eA
 have d0 := hc 0 (.int .i64 4) rfl; have d1 := hc 1 (.int .i64 5) rfl; have d2 := hc 2 (.int .i64 1152921504606846976) rfl
 have HD : Hid (V2.cell? ⟨g, o + 3, none⟩ = some (.int .i64 4) /\ V2.cell? ⟨g, o + 3 + 1, none⟩ = some (.int .i64 5) /\ V2.cell? ⟨g, o + 3 + 2, none⟩ = some (.int .i64 1152921504606846976)) := Lib.hid ⟨by simpa using d0, by simpa using d1, by simpa using d2⟩
 have XT2 := Lib.hid (Blk.below XT.out hb XT.out.lt)
 have HT2 := Lib.hid (HT.out.below hb)
 have HB3 := Lib.hid (HB2.out.trans (hb.mono HB2.out.size))
 clear hseg hl3 hL hc d0 d1 d2 hb XT HT HB2 HV0 HV1 HS0 HBT
 have c0 := XT2.out.cell 0; have c1 := XT2.out.cell 1; have c2 := XT2.out.cell 2; have c3 := XT2.out.cell 3; have c4 := XT2.out.cell 4; have c5 := XT2.out.cell 5
 simp only [List.getElem?_toArray, List.getElem?_cons_zero, List.getElem?_cons_succ] at c0 c1 c2 c3 c4 c5
 have hnew := snew_any HT2.out { data := #[97, 98] }
 rw [knownS_seg] at hnew
 dsimp only at hnew
 have HNEW := Lib.hid hnew
 clear hnew
 unfold tabV at HNEW
 go_wp2_with fail
 refine HNEW.out.mono ?_
 rintro e V3 ⟨bc, AC, cc, rfl, hcur, -, hb⟩
 clear HNEW c0 c1 c2 c3 c4 c5
 have HC := Lib.hid hcur
 have HD3 : Hid (V3.cell? ⟨g, o + 3, none⟩ = some (.int .i64 4) /\ V3.cell? ⟨g, o + 3 + 1, none⟩ = some (.int .i64 5) /\ V3.cell? ⟨g, o + 3 + 2, none⟩ = some (.int .i64 1152921504606846976)) := Lib.hid ⟨bel_m hb HD.out.1, bel_m hb HD.out.2.1, bel_m hb HD.out.2.2⟩
 have HB4 := Lib.hid (HB3.out.trans (hb.mono HB3.out.size))
 clear hcur hb HD XT2 HT2 HB3
 go_wp2_with fail
 refine (sbest_any (lo := 0) (hi := 2) (cat := 0) HC.out (by decide)).mono ?_
 intro e V4 hbe
 unfold BestO at hbe
 obtain ⟨rfl, hb⟩ := hbe
 rw [knownL_best]
 have HC4 := Lib.hid (HC.out.below hb)
 have HD4 : Hid (V4.cell? ⟨g, o + 3, none⟩ = some (.int .i64 4) /\ V4.cell? ⟨g, o + 3 + 1, none⟩ = some (.int .i64 5) /\ V4.cell? ⟨g, o + 3 + 2, none⟩ = some (.int .i64 1152921504606846976)) := Lib.hid ⟨bel_m hb HD3.out.1, bel_m hb HD3.out.2.1, bel_m hb HD3.out.2.2⟩
 have HB5 := Lib.hid (HB4.out.trans (hb.mono HB4.out.size))
 clear hb HC HD3 HB4
 go_wp2_with fail
 refine (sat_any HC4.out).mono ?_
 rintro e V5 ⟨rfl, hb⟩
 have hra : rowAt knownL 0 = (1, 2, 3) := by decide
 rw [hra]
 unfold vcV
 dsimp only
 have hb6 : Below V5.heap.size V5 (V5.alloc (.cells #[.int .i64 1, .int .i64 2, .int .i64 3] 51)) := (Below.refl _ _).alloc (Nat.le_refl _) _
 have hb46 := hb.trans (hb6.mono hb.size)
 have XV : Hid (Blk (V5.alloc (.cells #[.int .i64 1, .int .i64 2, .int .i64 3] 51)) V5.heap.size 51 #[.int .i64 1, .int .i64 2, .int .i64 3]) := Lib.hid (Blk.new _ _ _)
 have HC6 := Lib.hid (HC4.out.below hb46)
 obtain ⟨d0, d1, d2⟩ : (V5.alloc (.cells #[.int .i64 1, .int .i64 2, .int .i64 3] 51)).cell? ⟨g, o + 3, none⟩ = some (.int .i64 4) /\ (V5.alloc (.cells #[.int .i64 1, .int .i64 2, .int .i64 3] 51)).cell? ⟨g, o + 3 + 1, none⟩ = some (.int .i64 5) /\ (V5.alloc (.cells #[.int .i64 1, .int .i64 2, .int .i64 3] 51)).cell? ⟨g, o + 3 + 2, none⟩ = some (.int .i64 1152921504606846976) := ⟨bel_m hb46 HD4.out.1, bel_m hb46 HD4.out.2.1, bel_m hb46 HD4.out.2.2⟩
 have HB6 := Lib.hid (HB5.out.trans (hb46.mono HB5.out.size))
 clear hra hb hb6 hb46 HC4 HD4 HB5
 have c0 := XV.out.cell 0; have c1 := XV.out.cell 1; have c2 := XV.out.cell 2
 simp only [List.getElem?_toArray, List.getElem?_cons_zero, List.getElem?_cons_succ] at c0 c1 c2
 have q1 := seqVec 4 5 1152921504606846976 4 5 1152921504606846976
 have q2 := seqVec 1 2 3 1 2 3
 rw [sveq_refl] at q1 q2
 go_wp2_with fail
 refine (slen_any HC6.out).mono ?_
 rintro e w6 ⟨rfl, hw⟩
 subst w6
 have hl3 : knownL.length = 3 := rfl
 rw [hl3]
 clear hl3
 go_wp2_with fail
 go_ret
 exact ⟨rfl, HB6.out⟩
end Go.Proofs.Ytacgakkcpmhgmaa
