/- net.reached. fewest.renamed; names, plain. -/
import Derived.Test.YtdcokkgdahbinaaVMiniK
set_option linter.unusedVariables false
set_option linter.unusedSimpArgs false
set_option maxRecDepth 100000
set_option maxHeartbeats 8000000
namespace Go.Proofs.Ytdcokkgdahbinaa
open Go Go.RowKit Go.Proofs
theorem visit_lt {T : List (List Nat)} {k : Nat} (hT : RectN T k) {s : Nat} (hs : s < T.length) {m : List Nat} (hm : ∀ x ∈ m, x < T.length) (i : Nat) : ∀ x ∈ visitN eqN ((T.getD s []).take i) m, x < T.length := by
 obtain ⟨r, e, hr⟩ := visitN_pre eqN ((T.getD s []).take i) m
 rw [e]
 intro x hx
 rcases List.mem_append.1 hx with q | q
 ·exact hm x q
 ·obtain ⟨a, ha, rfl⟩ := row_mem hT hs (List.mem_of_mem_take (hr x q))
  exact hT.lt s a hs ha
theorem OrdAt.form {w : World} {B b gn n : Nat} {mv : Value} {M : List Nat} (h : OrdAt w B b mv gn n M) : ∃ A c, mv = .slice A M.length c /\ M.length <= c /\ c <= 9223372036854775807 := by
 obtain ⟨A, c, e, q1, q2, _⟩ := h.met.readsI.form
 exact ⟨A, c, e, q1, q2⟩
theorem OrdAt.bel2 {w w' : World} {B b gn n : Nat} {mv : Value} {M : List Nat} (h : OrdAt w B b mv gn n M) {W0 : World} (h0 : Below B W0 w) (hB : B <= W0.heap.size) (hf : Fr (OrdX b gn mv) w w') : Below B W0 w' :=
 h0.trans (hf.below (Nat.le_trans hB h0.size) (fun k hk hx => by have := (h.lt k hx).1; omega))
theorem reached_any {w : World} {A : Option Addr} {c n k : Nat} {T : List (List Nat)} (h : NextR w (.slice A n c) T) (hl : T.length = n) (hT : RectN T k) (hn : n <= 1000) :
  Calls Try.prog 54 #[.agg #[.slice A n c]] w fun e w' => ∃ v, e = .returned v /\ Own w' w.heap.size v (metN T).length (intsN (metN T)) /\ Below w.heap.size w w' := by
  have hpos : 0 < n := by have := hT.pos; omega
  obtain ⟨W0, hW0⟩ : ∃ W0, w.alloc (.cells #[.slice A n c] 57) = W0 := ⟨_, rfl⟩
  have hb0 : Below w.heap.size w W0 := by rw [<- hW0]; exact (Below.refl _ _).alloc (Nat.le_refl _) _
  have hx0 : Blk W0 w.heap.size 57 #[.slice A n c] := by rw [<- hW0]; exact Blk.new _ _ _
  obtain ⟨gb, go, A0, m0, c0, hA, -, -, -, -, -⟩ := h.at_ (i := 0) (by omega)
  subst hA
  obtain ⟨nb, hnb⟩ : ∃ nb, nb = w.heap.size := ⟨_, rfl⟩
  rw [<- hnb] at hx0
  have hz0 : nb < W0.heap.size := hx0.lt
  have HW0 := Lib.hid hW0; have HB0 := Lib.hid hb0; have HX0 := Lib.hid hx0; have HR := Lib.hid (h.below hb0); have HT := Lib.hid hT; have HN := Lib.hid hl; have HNB := Lib.hid hnb
  have HSZ := Lib.hid (fun W => size_any (some ⟨gb, go, none⟩) n c W)
  have HNO := Lib.hid (fun W => newOrder_any n hn W)
  have hmet : ∀ j, (bfsN T eqN j).length <= n /\ (bfsN T eqN j).Nodup /\ ∀ x ∈ bfsN T eqN j, x < T.length := fun j => ⟨by have := bfs_len hT EqvN.eq j; omega, (bfs_apart j).nodup EqvN.eq, bfs_lt hT j⟩
  have HME := Lib.hid hmet
  clear hW0 hb0 hx0 h hT hl A0 m0 c0 hmet
  go_enter Try.func54, Try.ntmps54
  go_wp2_with fail
  rw [HW0.out]
  rw [<- hnb]
  clear hnb HW0
  refine (HSZ.out W0).mono ?_
  rintro e w1 ⟨rfl, hb1⟩
  have HB1 := Lib.hid hb1
  clear hb1
  go_wp2_with fail
  refine (HNO.out w1).mono ?_
  rintro e w2 ⟨g, rfl, hg, ho, hb2⟩
  obtain ⟨W3, hW3⟩ : ∃ W3, w2.alloc (.cells #[.slice none 0 0, sl g n n] 91) = W3 := ⟨_, rfl⟩
  have hb3 : Below w2.heap.size w2 W3 := by rw [<- hW3]; exact (Below.refl _ _).alloc (Nat.le_refl _) _
  obtain ⟨b, hb⟩ : ∃ b, b = w2.heap.size := ⟨_, rfl⟩
  have hx3 : Blk W3 b 91 #[.slice none 0 0, sl g n n] := by rw [<- hW3, hb]; exact Blk.new _ _ _
  obtain ⟨B, hB⟩ : ∃ B, B = W0.heap.size := ⟨_, rfl⟩
  have hs1 := HB1.out.size; have hs2 := hb2.size
  have hglt := (ho.lt g rfl).2
  have hord : OrdAt W3 B b (.slice none 0 0) g n [] := ⟨hx3, Own.nil _ _, (ho.below_top hb3).more (by omega), fun e => by omega, by simp [Value.ownBlock], by simp [Value.ownBlock], by omega⟩
  have hbl : Below B W0 W3 := by
   rw [hB]
   exact HB1.out.trans ((hb2.trans (hb3.mono hs2)).mono hs1)
  have hnum := number_any hord (x := 0) hpos hn (by simp) (Nat.le_trans (Nat.le_of_eq hB) (by have := hbl.size; omega))
  have HNU := Lib.hid hnum; have HOR := Lib.hid hord; have HBL := Lib.hid hbl; have HBE := Lib.hid hB; have HW3 := Lib.hid hW3; have HBB := Lib.hid hb
  have hBz : B <= W0.heap.size := by omega
  clear hnum hord hbl hW3 hb3 hx3 ho hb2 hg hs1 hs2 hglt HSZ HNO HB1
  go_wp2_with fail
  rw [HW3.out]
  rw [<- hb]
  clear hb hB HW3
  refine HNU.out.mono ?_
  rintro e w4 ⟨rfl, mv, ho4, hf4, -⟩
  have hbl4 := HOR.out.bel2 HBL.out hBz hf4
  have H04 : Hid (∃ mv', OrdAt w4 B b mv' g n (bfsN T eqN 0) /\ Below B W0 w4) := Lib.hid ⟨mv, ho4, hbl4⟩
  clear ho4 hf4 hbl4 HNU HOR HBL
  go_wp2_with fail
  go_loopw [4] (fun vj wr => ∃ j : Nat, vj = .int .i64 (j : Int) /\ j <= n /\ Hid (∃ mv', OrdAt wr B b mv' g n (bfsN T eqN j) /\ Below B W0 wr)) (fun vj _ => n - (intOf vj).toNat)
  case atStart => exact ⟨0, rfl, Nat.zero_le _, H04⟩
  case round =>
   clear H04
   obtain ⟨j, rfl, hj, HJ⟩ := hrel
   obtain ⟨mv, ho, hbl⟩ := HJ.out
   have j0 : (0 : Int) <= (j : Int) := Int.natCast_nonneg _
   obtain ⟨MA, mc, hmv, hmc, hmc2⟩ := ho.form
   obtain ⟨q1, q2, q3⟩ := HME.out j
   have b0 := ho.box.cell 0
   simp only [List.getElem?_toArray, List.getElem?_cons_zero] at b0
   rw [hmv] at b0
   obtain ⟨ml, hml⟩ : ∃ ml, (bfsN T eqN j).length = ml := ⟨_, rfl⟩
   have HO := Lib.hid ho; have HBL := Lib.hid hbl; have HMV := Lib.hid hmv; have HML := Lib.hid hml
   rw [hml] at b0 hmc q1
   have hxn := Blk.below HX0.out (show Below W0.heap.size W0 wr from HBE.out ▸ hbl) HX0.out.lt
   have n0 := hxn.cell 0
   simp only [List.getElem?_toArray, List.getElem?_cons_zero] at n0
   clear ho hbl hmv hml HJ hxn
   by_cases hlt : j < ml
   ·have j1 : (j : Int) < (ml : Int) := by omega
    have tj : decide (j < ml) = true := by simpa using hlt
    have hjl : j < (bfsN T eqN j).length := by rw [HML.out]; exact hlt
    obtain ⟨s, hs⟩ : ∃ s, (bfsN T eqN j)[j]'hjl = s := ⟨_, rfl⟩
    have hsm : (bfsN T eqN j)[j]? = some s := by rw [List.getElem?_eq_getElem hjl, hs]
    have hsn : s < T.length := q3 s (List.mem_of_getElem? hsm)
    have hrow := HO.out.met.readsI
    rw [HMV.out, HML.out] at hrow
    obtain ⟨gm, om, hMA, -, cm⟩ := hrow.at j hlt
    subst hMA
    have ce : (intsN (bfsN T eqN j)).getD j 0 = (s : Int) := by simp [intsN, List.getD, List.getElem?_eq_getElem hjl, hs]
    rw [ce] at cm
    obtain ⟨gb', go', A1, m1, c1, hA1, hm1, d1, r1, r2, r3⟩ := (HR.out.below (show Below W0.heap.size W0 wr from HBE.out ▸ HBL.out)).at_ (i := s) hsn
    simp only [Option.some.injEq, Addr.mk.injEq, and_true] at hA1
    obtain ⟨rfl, rfl⟩ := hA1
    have hsn2 : s < n := by rw [HN.out] at hsn; exact hsn
    have s0 : (0 : Int) <= (s : Int) := Int.natCast_nonneg _
    have s1 : (s : Int) < (n : Int) := by omega
    have ts : decide (s < n) = true := by simpa using hsn2
    have HR1 := Lib.hid r1; have HSM := Lib.hid hsm; have HSN := Lib.hid hsn; have HM1 := Lib.hid hm1
    have HV0 : Hid (∃ mv', OrdAt wr B b mv' g n (visitN eqN ((T.getD s []).take 0) (bfsN T eqN j)) /\ Below wr.heap.size wr wr /\ Below B W0 wr) := Lib.hid ⟨mv, by simpa [visitN] using HO.out, Below.refl _ _, HBL.out⟩
    clear r1 hrow hs hsm ce hsn hm1 q3
    go_wp2_with fail
    go_quiet (fail)
    obtain ⟨wf, hwf⟩ : ∃ wf, wr.drewN nq = wf := ⟨_, rfl⟩
    rw [hwf]
    have HV1 : Hid (∃ mv', OrdAt wf B b mv' g n (visitN eqN ((T.getD s []).take 0) (bfsN T eqN j)) /\ Below B W0 wf) := Lib.hid (by
     rw [<- hwf]
     obtain ⟨mv', h1, -, h3⟩ := HV0.out
     exact ⟨mv', h1.keep ((Fr.refl (fun _ => False) wr).drewN nq) id id (fun _ _ => id), ⟨h3.os, h3.tape, h3.output, h3.size, h3.block⟩⟩)
    have HR2 : Hid (ReadsI W0 (.slice A1 m1 c1) m1 (intsN (T.getD s []))) := Lib.hid (by
     obtain ⟨gb', go', A2, m2, c2, hA2, hm2, d2, t1, t2, t3⟩ := HR.out.at_ (i := s) HSN.out
     simp only [Option.some.injEq, Addr.mk.injEq, and_true] at hA2
     obtain ⟨rfl, rfl⟩ := hA2
     have d3 := bel_m (show Below W0.heap.size W0 wr from HBE.out ▸ HBL.out) d2
     rw [d1] at d3
     injection d3 with d3
     simp only [Value.slice.injEq] at d3
     obtain ⟨rfl, rfl, rfl⟩ := d3
     exact t1)
    clear HV0 HR1 hwf b0 n0 cm d1 HO HBL HMV
    go_wp2_with fail
    go_loopw [28] (fun vi wr => ∃ i : Nat, vi = .int .i64 (i : Int) /\ i <= m1 /\ Hid (∃ mv', OrdAt wr B b mv' g n (visitN eqN ((T.getD s []).take i) (bfsN T eqN j)) /\ Below B W0 wr)) (fun vi _ => m1 - (intOf vi).toNat)
    case atStart => exact ⟨0, rfl, Nat.zero_le _, HV1⟩
    case round =>
     clear HV1
     obtain ⟨i, rfl, hi, HI⟩ := hrel
     obtain ⟨mv, ho, hbl⟩ := HI.out
     have i0 : (0 : Int) <= (i : Int) := Int.natCast_nonneg _
     by_cases hli : i < m1
     ·have i1 : (i : Int) < (m1 : Int) := by omega
      have ti : decide (i < m1) = true := by simpa using hli
      obtain ⟨g2, o2, hA2, -, e2⟩ := (HR2.out.below (show Below W0.heap.size W0 wr from HBE.out ▸ hbl)).at i hli
      subst hA2
      rw [ints_tr] at e2
      have hil : i < (T.getD s []).length := by rw [<- HM1.out]; exact hli
      have hik : i < k := by have := HT.out.len s HSN.out; omega
      have htn : trN T s i < n := by have := HT.out.lt s i HSN.out hik; rw [HN.out] at this; exact this
      have htk : (T.getD s []).take (i + 1) = (T.getD s []).take i ++ [trN T s i] := by
       rw [List.take_succ_eq_append_getElem hil]
       congr 1
       unfold trN
       rw [List.getD_eq_getElem?_getD (l := T.getD s []), List.getElem?_eq_getElem hil]
       rfl
      have hvn := (((bfs_apart (T := T) (E := eqN) j).visit ((T.getD s []).take i)).nodup EqvN.eq)
      have hvl := nodup_len hvn (visit_lt HT.out HSN.out (HME.out j).2.2 i)
      have hnum := number_any ho htn hn (by rw [HN.out] at hvl; omega) (Nat.le_trans hBz hbl.size)
      have HNU := Lib.hid hnum; have HO := Lib.hid ho; have HBL := Lib.hid hbl; have HTK := Lib.hid htk
      clear hnum ho hbl htk hvn hvl htn hil
      generalize hz : trN T s i = z at *
      clear hz
      go_wp2_with fail
      refine HNU.out.mono ?_
      rintro e w6 ⟨rfl, mv6, ho6, hf6, -⟩
      have H6 : Hid (∃ mv', OrdAt w6 B b mv' g n (visitN eqN ((T.getD s []).take (i + 1)) (bfsN T eqN j)) /\ Below B W0 w6) := Lib.hid ⟨mv6, by rw [HTK.out, visitN_snoc, <- metL_eq]; exact ho6, HO.out.bel2 HBL.out hBz hf6⟩
      clear ho6 hf6 HNU
      go_wp2_with fail
      exact ⟨⟨i + 1, by go_num, by omega, H6⟩, by simp [intOf]; omega⟩
     ·have HIM : Hid (i = m1) := Lib.hid (by omega)
      have H7 : Hid (∃ mv', OrdAt wr B b mv' g n (bfsN T eqN (j + 1)) /\ Below B W0 wr) := Lib.hid ⟨mv, by
       rw [bfs_some HSM.out]
       have e1 : (T.getD s []).take i = T.getD s [] := List.take_of_length_le (by rw [HIM.out, HM1.out]; exact Nat.le_refl _)
       rw [e1] at ho
       exact ho, hbl⟩
      clear ho hbl
      go_wp2_with fail
      exact ⟨⟨j + 1, by go_num, by omega, H7⟩, by simp [intOf]; omega⟩
   ·have HALL : Hid (bfsN T eqN j = metN T) := Lib.hid (bfs_all HT.out EqvN.eq (by rw [HML.out]; omega))
    go_wp2_with fail
    go_ret
    have ho := HO.out
    rw [HALL.out] at ho
    have hmv := HMV.out
    rw [HML.out] at hmv
    have hz1 := hz0
    have hNB := HNB.out; have hBe := HBE.out
    refine ⟨_, rfl, ?_, HB0.out.trans ((show Below B W0 wr from HBL.out).mono (by omega))⟩
    rw [<- hmv]
    exact ho.met.more (by omega)
end Go.Proofs.Ytdcokkgdahbinaa
namespace Go.Proofs.Ytdcokkgdahbinaa
open Go Go.RowKit Go.Proofs
def rowZ (n : Nat) (f : Nat -> Int) : List Int := (List.range n).map f
theorem rowZ_len (n : Nat) (f : Nat -> Int) : (rowZ n f).length = n := by simp [rowZ]
theorem rowZ_get {n : Nat} (f : Nat -> Int) {i : Nat} (h : i < n) : (rowZ n f).getD i 0 = f i := by simp [rowZ, h]
theorem rowZ_set (n : Nat) (f : Nat -> Int) (i : Nat) (v : Int) : (rowZ n f).set i v = rowZ n (fun j => if j = i then v else f j) := by
 apply List.ext_getElem
 ·simp [rowZ]
 ·intro j h1 h2
  simp only [rowZ, List.getElem_set, List.getElem_map, List.getElem_range]
  by_cases e : i = j
  ·subst e; simp
  ·rw [if_neg e, if_neg (fun q => e q.symm)]
theorem rowZ_congr {n : Nat} {f f' : Nat -> Int} (h : ∀ i, i < n -> f i = f' i) : rowZ n f = rowZ n f' := by
 unfold rowZ
 exact List.map_congr_left fun i hi => h i (List.mem_range.1 hi)
def renF (nm : Nat -> Int) (ss : List Nat) (i : Nat) : Nat -> Int := fun q => if q < i then nm (ss.getD q 0) else 0
theorem renF_all (nm : Nat -> Int) (ss : List Nat) : rowZ ss.length (renF nm ss ss.length) = ss.map nm := by
 apply List.ext_getElem
 ·simp [rowZ]
 ·intro i h1 h2
  have hi : i < ss.length := by simpa [rowZ] using h1
  simp only [rowZ, renF, List.getElem_map, List.getElem_range]
  rw [if_pos hi]
  simp [List.getD, List.getElem?_eq_getElem hi]
theorem renF_succ (nm : Nat -> Int) (ss : List Nat) (m i : Nat) : (rowZ m (renF nm ss i)).set i (nm (ss.getD i 0)) = rowZ m (renF nm ss (i + 1)) := by
 rw [rowZ_set]
 congr 1
 funext q
 unfold renF
 by_cases e : q = i
 ·subst e; rw [if_pos rfl, if_pos (Nat.lt_succ_self q)]
 ·rw [if_neg e]
  by_cases h : q < i
  ·rw [if_pos h, if_pos (by omega)]
  ·rw [if_neg h, if_neg (by omega)]
theorem renF_zero (nm : Nat -> Int) (ss : List Nat) (m : Nat) : rowZ m (renF nm ss 0) = rowN m fun _ => 0 := by
 unfold rowZ rowN renF
 exact List.map_congr_left fun i _ => by simp
theorem renamed_any {w : World} {X0 X1 VA : Option Addr} {xn0 xc0 xn1 xc1 : Nat} {Bn gn n cn m c : Nat} {nm : Nat -> Int} {ss : List Nat} (hnm : Own w Bn (sl gn n cn) n (rowZ n nm)) (hv : ReadsI w (.slice VA m c) m (intsN ss)) (hss : ∀ x ∈ ss, x < n) (hn : n <= 1000) (hm : m <= 1000) :
  Calls Try.prog 56 #[.agg #[.slice X0 xn0 xc0, .slice X1 xn1 xc1, sl gn n cn], .slice VA m c] w fun e w' => ∃ g, e = .returned (sl g m m) /\ Own w' w.heap.size (sl g m m) m (ss.map nm) /\ Below w.heap.size w w' := by
  have hsl : ss.length = m := by have := hv.1; simpa [intsN] using this
  obtain ⟨cn1, cn2, -, -⟩ := hnm.capN
  unfold maxLen at cn2
  obtain ⟨-, VA', c', e, hvc, hvc2, -, -⟩ := id hv
  simp only [Value.slice.injEq, true_and] at e
  obtain ⟨rfl, rfl⟩ := e
  unfold maxLen at hvc2
  obtain ⟨W0, hW0⟩ : ∃ W0, w.alloc (.cells #[.slice X0 xn0 xc0, .slice X1 xn1 xc1, sl gn n cn] 61) = W0 := ⟨_, rfl⟩
  have hb0 : Below w.heap.size w W0 := by rw [<- hW0]; exact (Below.refl _ _).alloc (Nat.le_refl _) _
  have hx0 : Blk W0 w.heap.size 61 #[.slice X0 xn0 xc0, .slice X1 xn1 xc1, sl gn n cn] := by rw [<- hW0]; exact Blk.new _ _ _
  obtain ⟨W1, hW1⟩ : ∃ W1, W0.alloc (.cells (repA m (.int .i64 0)) 3) = W1 := ⟨_, rfl⟩
  have hb1 : Below W0.heap.size W0 W1 := by rw [<- hW1]; exact (Below.refl _ _).alloc (Nat.le_refl _) _
  have ho1 := own_mk m hm W0
  rw [hW1] at ho1
  have hmk := mkI_any m hm W0
  rw [hW1] at hmk
  obtain ⟨nb, hnb⟩ : ∃ nb, nb = w.heap.size := ⟨_, rfl⟩
  rw [<- hnb] at hx0
  obtain ⟨g, hg⟩ : ∃ g, g = W0.heap.size := ⟨_, rfl⟩
  rw [<- hg] at ho1 hmk
  rw [<- hW0] at hmk
  have hz0 : nb < W0.heap.size := hx0.lt
  have HX1 := Lib.hid (Blk.below hx0 hb1 hx0.lt); have HB1 := Lib.hid (hb0.trans (hb1.mono (Nat.le_of_lt (by omega)))); have HNM := Lib.hid ((hnm.below_top hb0).below_top hb1); have HV := Lib.hid ((hv.below hb0).below hb1); have HSS := Lib.hid hss; have HSL := Lib.hid hsl; have HW0 := Lib.hid hW0; have HNB := Lib.hid hnb; have HG := Lib.hid hg
  have H00 : Hid (Own W1 g (sl g m m) m (rowZ m (renF nm ss 0))) := Lib.hid (by rw [renF_zero]; exact ho1)
  have HNM0 := Lib.hid (hnm.below_top hb0); have HVW := Lib.hid (hv.below hb0)
  clear hnm hv hss hsl hW0 hb0 hx0 hb1 ho1 hW1
  have hgz : w.heap.size <= g := by omega
  have hgn0 : gn ≠ g := fun e => by
   have := (HNM0.out.lt gn rfl).2
   omega
  have hng : ¬ nb = g := by omega
  clear hg
  go_enter Try.func56, Try.ntmps56
  have m0 : (0 : Int) <= (m : Int) := Int.natCast_nonneg _
  go_wp2_with fail
  rw [<- hnb]
  clear hmk hnb
  go_loopw [6, 7, 13] (fun v6 v7 vi wr => ∃ i : Nat, vi = .int .i64 (i : Int) /\ i <= m /\ Hid (Own wr g (sl g m m) m (rowZ m (renF nm ss i))) /\ Hid (Fr (fun q => q = g) W1 wr)) (fun _ _ vi _ => m - (intOf vi).toNat)
  case atStart => exact ⟨0, rfl, Nat.zero_le _, H00, Lib.hid (Fr.refl _ _)⟩
  case round =>
   clear H00
   obtain ⟨i, rfl, hi, HO, HF⟩ := hrel
   have i0 : (0 : Int) <= (i : Int) := Int.natCast_nonneg _
   by_cases hlt : i < m
   ·have i1 : (i : Int) < (m : Int) := by omega
    have ti : decide (i < m) = true := by simpa using hlt
    have til : i < ss.length := by rw [HSL.out]; exact hlt
    obtain ⟨x, hx⟩ : ∃ x, ss.getD i 0 = x := ⟨_, rfl⟩
    have hxm : x ∈ ss := by rw [<- hx, List.getD_eq_getElem?_getD, List.getElem?_eq_getElem til]; exact List.getElem_mem _
    have hxn := HSS.out x hxm
    have ce : (intsN ss).getD i 0 = (x : Int) := by rw [<- hx]; simp [intsN, List.getD, List.getElem?_eq_getElem til]
    obtain ⟨gv, ov, hVA, -, cv⟩ := HV.out.at i hlt
    subst hVA
    have hvg : ¬ gv = g := fun e => by
     have h1 := HVW.out
     obtain ⟨gv', ov', e1, hlv, -⟩ := h1.at i hlt
     simp only [Option.some.injEq, Addr.mk.injEq, and_true] at e1
     obtain ⟨rfl, rfl⟩ := e1
     have := HG.out
     omega
    have c1 := HF.out.cell cv hvg
    rw [ce] at c1
    have hnm2 := HF.out.own HNM.out (fun q hq e => hgn0 (by
     have : gn = q := by simpa [Value.ownBlock] using hq
     rw [this, e]))
    have c2 := cell_of_own hnm2 hxn
    rw [rowZ_get nm hxn] at c2
    have hxb := HF.out.blk HX1.out (fun e => hng e)
    have k2 := hxb.cell 2
    simp only [List.getElem?_toArray, List.getElem?_cons_zero, List.getElem?_cons_succ] at k2
    have c3 := cell_of_own HO.out hlt
    have fz := HO.out.frozen i
    have HST := Lib.hid (HO.out.stored i (nm x)).1
    have HSU := Lib.hid (renF_succ nm ss m i)
    rw [hx] at HSU
    have x0 : (0 : Int) <= (x : Int) := Int.natCast_nonneg _
    have x1 : (x : Int) < (n : Int) := by omega
    have tx : decide (x < n) = true := by simpa using hxn
    clear cv ce hnm2 hxb hx hxm
    generalize (rowZ m (renF nm ss i)).getD i 0 = old at c3
    generalize nm x = y at *
    go_wp2_with fail
    exact ⟨⟨i + 1, by go_num, by omega, Lib.hid (by rw [<- HSU.out]; exact HST.out), Lib.hid (HF.out.set_ (p := ⟨g, i, none⟩) (.inl rfl) _)⟩, by simp [intOf]; omega⟩
   ·have HIM : Hid (i = m) := Lib.hid (by omega)
    go_wp2_with fail
    go_ret
    have ho := HO.out
    have e1 : rowZ m (renF nm ss i) = ss.map nm := by rw [HIM.out, <- HSL.out]; exact renF_all nm ss
    rw [e1] at ho
    exact ⟨g, rfl, ho.more hgz, HB1.out.trans (HF.out.below HB1.out.size (fun q hq e => by omega))⟩
end Go.Proofs.Ytdcokkgdahbinaa
