/- The reference's num. The reference's nums and rows. The reference's Save. -/
import Derived.Test.YtjkcglgkdclidaaVTableYi
set_option linter.unusedVariables false
set_option linter.unusedSimpArgs false
set_option maxRecDepth 100000
set_option maxHeartbeats 8000000
namespace Go.Proofs.Ytjkcglgkdclidaa
open Go Go.RowKit Go.Proofs
structure GrowB (w : World) (B : Nat) (v : Value) (W : World) (u : Value) (M : List Int) : Prop where
 o : BRow W B u M
 at_ : u.ownBlock = v.ownBlock \/ ∀ k, u.ownBlock = some k -> w.heap.size <= k
 fr : Fr (fun q => v.ownBlock = some q) w W
section
variable {w w1 W W' : World} {B : Nat} {v u z : Value} {M N : List Int}
theorem GrowB.refl (h : BRow w B v M) : GrowB w B v w v M := ⟨h, .inl rfl, Fr.refl _ _⟩
theorem GrowB.trans (h : GrowB w B v W u M) (k : GrowB W B u W' z N) : GrowB w B v W' z N :=
 ⟨k.o, by
  rcases k.at_ with h1 | h1
  ·rcases h.at_ with h2 | h2
   ·exact .inl (h1.trans h2)
   ·exact .inr (fun q hq => h2 q (h1 ▸ hq))
  ·exact .inr (fun q hq => Nat.le_trans h.fr.size (h1 q hq)), h.fr.then_ k.fr (fun q hq e => by
   rcases h.at_ with h2 | h2
   ·exact h2 ▸ e
   ·have := h2 q e; omega)⟩
theorem GrowB.low (h : GrowB w B v W u M) (hB : B <= w.heap.size) (hv : ∀ k, v.ownBlock = some k -> B <= k) : Below B w W :=
 h.fr.below hB (fun k hk e => by have := hv k e; omega)
theorem GrowB.below (h : GrowB w B v W u M) (hb : Below W.heap.size W W') : GrowB w B v W' u M :=
 ⟨h.o.below hb, h.at_, h.fr.then_ (Fr.of_below (X := fun _ => False) hb) (fun _ _ e => e.elim)⟩
theorem GrowB.push {g cap : Nat} {x : Int} (h : GrowB w B v W u M) (hp : PushedE encB 5 1 B W W' u g cap M.length M x) : GrowB w B v W' (.slice (some ⟨g, 0, none⟩) (M.length + 1) cap) (M ++ [x]) :=
 h.trans ⟨by unfold BRow; rw [List.length_append]; exact hp.own, by
  rcases hp.at_ with h1 | h1
  ·exact .inl h1.symm
  ·exact .inr (fun k hk => by simp only [Value.ownBlock, Option.some.injEq] at hk; omega), Fr.of_grown hp.grow (fun k e => e)⟩
end
theorem be8_take_succ (x : Int) {i : Nat} (h : i < 8) : (be8 x).take (i + 1) = (be8 x).take i ++ [(be8 x).getD i 0] := by
 rcases (show i = 0 \/ i = 1 \/ i = 2 \/ i = 3 \/ i = 4 \/ i = 5 \/ i = 6 \/ i = 7 by omega) with rfl | rfl | rfl | rfl | rfl | rfl | rfl | rfl <;> rfl
theorem rnum_any {w : World} {B : Nat} {v : Value} {L : List Int} {x : Int} (h : BRow w B v L) (hB : B <= w.heap.size) (hx : Int64 x) (hlen : L.length + 8 <= 100000000) :
  Calls Try.prog 39 #[v, .int .i64 x] w fun e w' => ∃ u, e = .returned u /\ GrowB w B v w' u (L ++ be8 x) := by
  have HG : Hid (GrowB w B v w v (L ++ (be8 x).take 0)) := Lib.hid (by rw [List.take_zero, List.append_nil]; exact GrowB.refl h)
  obtain ⟨x1, x2⟩ := hx
  clear h
  go_enter Try.func39, Try.ntmps39
  go_wp2_with fail
  go_loopw [0, 5] (fun u vi wr => ∃ i : Nat, vi = .int .i64 (i : Int) /\ i <= 8 /\ Hid (GrowB w B v wr u (L ++ (be8 x).take i))) (fun _ vi _ => 8 - (intOf vi).toNat)
  case atStart => exact ⟨0, rfl, Nat.zero_le _, HG⟩
  case round =>
   clear HG
   obtain ⟨i, rfl, hi, HG⟩ := hrel
   by_cases hlt : i < 8
   ·have hbs : B <= wr.heap.size := Nat.le_trans hB HG.out.fr.size
    obtain ⟨P, hP⟩ : ∃ P, L ++ (be8 x).take i = P := ⟨_, rfl⟩
    have hPl : P.length <= 1000000000 := by rw [<- hP, List.length_append, List.length_take]; omega
    have hst : L ++ (be8 x).take (i + 1) = P ++ [(be8 x).getD i 0] := by rw [be8_take_succ x hlt, <- List.append_assoc, hP]
    rw [hP] at HG
    have HST := Lib.hid hst
    clear hP hst
    rcases (show i = 0 \/ i = 1 \/ i = 2 \/ i = 3 \/ i = 4 \/ i = 5 \/ i = 6 \/ i = 7 by omega) with rfl | rfl | rfl | rfl | rfl | rfl | rfl | rfl
    all_goals (clear hlt hi)
    all_goals (
     go_wp2_with (at_builtin; refine wpList_pushE (enc := encB) rfl (.tmp 10) (.tmp 18) 34 rfl 1 _ Try.underlying34 info_byte rfl (by omega) (by omega) B wr u0 P.length P _ _ rfl rfl (by simp [encB, Value.oneCell']) (by rfl) HG.out.o wr.heap.size (by rfl) rfl hPl hbs ?_; intro g9 cap9 w9 hp9; have HP := Lib.hid (HG.out.push hp9); clear hp9)
     refine ⟨⟨_, by go_num, by decide, Lib.hid ?_⟩, by simp [intOf]⟩
     rw [HST.out]
     exact HP.out)
   ·obtain rfl : i = 8 := by omega
    go_wp2_with fail
    go_ret
    exact ⟨_, rfl, HG.out⟩
end Go.Proofs.Ytjkcglgkdclidaa
namespace Go.Proofs.Ytjkcglgkdclidaa
open Go Go.RowKit Go.Proofs
theorem GrowB.base {w0 w W : World} {v u : Value} {L M : List Int} (h : BRow w w0.heap.size v L) (hb : Below w0.heap.size w0 w) (k : GrowB w w0.heap.size v W u M) : Below w0.heap.size w0 W :=
 hb.trans (k.low hb.size (fun q hq => (h.lt q hq).1))
theorem rnums_any {w0 w : World} {v : Value} {L l : List Int} {A : Option Addr} {m cap : Nat} (h : BRow w w0.heap.size v L) (hb : Below w0.heap.size w0 w) (hr : ReadsI w0 (.slice A m cap) m l) (hi : ∀ x ∈ l, Int64 x) (hlen : L.length + 8 * m + 8 <= 80000000) :
  Calls Try.prog 37 #[v, .slice A m cap] w fun e w' => ∃ u, e = .returned u /\ GrowB w w0.heap.size v w' u (L ++ bytesN (enN l)) := by
  have hl := hr.1
  obtain ⟨A', c', e, l1, l2, -⟩ := hr.form
  simp only [Value.slice.injEq, true_and] at e
  obtain ⟨rfl, rfl⟩ := e
  have HO := Lib.hid h; have HR := Lib.hid hr; have HI := Lib.hid hi; have HL := Lib.hid hl; have HLN := Lib.hid hlen; have HB := Lib.hid hb
  have HC0 := Lib.hid (rnum_any h (x := (m : Int)) hb.size (by unfold Int64; omega) (by omega))
  clear h hb hr hi hl hlen
  go_enter Try.func37, Try.ntmps37
  go_wp2_with fail
  refine HC0.out.mono ?_
  rintro e w1 ⟨u1, rfl, hg⟩
  have HG1 : Hid (GrowB w w0.heap.size v w1 u1 (L ++ bytesN ((m : Int) :: l.take 0))) := Lib.hid (by rw [List.take_zero, bytesN_one]; exact hg)
  clear hg HC0
  go_wp2_with fail
  go_loopw [0, 5] (fun u vi wr => ∃ i : Nat, vi = .int .i64 (i : Int) /\ i <= m /\ Hid (GrowB w w0.heap.size v wr u (L ++ bytesN ((m : Int) :: l.take i)))) (fun _ vi _ => m - (intOf vi).toNat)
  case atStart => exact ⟨0, rfl, Nat.zero_le _, HG1⟩
  case round =>
   clear HG1
   obtain ⟨i, rfl, hi, HG⟩ := hrel
   have i0 : (0 : Int) <= (i : Int) := Int.natCast_nonneg _
   by_cases hlt : i < m
   ·have i1 : (i : Int) < (m : Int) := by omega
    have hil : i < l.length := by rw [HL.out]; exact hlt
    have hbw := HG.out.base HO.out HB.out
    have hrd := HR.out.below hbw
    obtain ⟨h1, a, c, h2, h5, h6, h3, h4⟩ := hrd
    simp only [Value.slice.injEq, true_and] at h2
    obtain ⟨rfl, rfl⟩ := h2
    obtain ⟨g, o, rfl, hc⟩ := h4 i hlt
    have hcx := hc i hlt
    have hxi : Int64 (l.getD i 0) := HI.out _ (getD_mem hil)
    have hst : L ++ bytesN ((m : Int) :: l.take (i + 1)) = (L ++ bytesN ((m : Int) :: l.take i)) ++ be8 (l.getD i 0) := by
     have := take_succ_bytes hil (L ++ be8 (m : Int))
     rw [bytesN_cons, bytesN_cons, <- List.append_assoc, this, <- List.append_assoc]
    have hPl : (L ++ bytesN ((m : Int) :: l.take i)).length + 8 <= 100000000 := by
     rw [List.length_append, bytesN_len, List.length_cons, List.length_take]
     have := HLN.out
     omega
    obtain ⟨x, hx⟩ : ∃ x, l.getD i 0 = x := ⟨_, rfl⟩
    rw [hx] at hcx hxi hst
    have HC := Lib.hid (rnum_any HG.out.o hbw.size hxi hPl); have HST := Lib.hid hst
    clear hil hbw h1 h5 h6 h3 h4 hc hxi hst hPl hx
    go_wp2_with fail
    refine HC.out.mono ?_
    rintro e w2 ⟨u2, rfl, hg⟩
    have HG2 := Lib.hid (HG.out.trans hg)
    clear hg HC hcx
    go_wp2_with fail
    refine ⟨⟨i + 1, by go_num, by omega, Lib.hid ?_⟩, by simp [intOf]; omega⟩
    rw [HST.out]
    exact HG2.out
   ·obtain rfl : i = m := by omega
    have hp := HG.out
    rw [List.take_of_length_le (by rw [HL.out]; exact Nat.le_refl _)] at hp
    have HPF := Lib.hid hp
    clear hp
    go_wp2_with fail
    go_ret
    refine ⟨_, rfl, ?_⟩
    rw [enN_eq, HL.out]
    exact HPF.out
theorem rrows_any {w0 w : World} {v vt : Value} {L : List Int} {T : List (List Int)} (h : BRow w w0.heap.size v L) (hb : Below w0.heap.size w0 w) (hr : RowsI w0 vt T) (hi : ∀ r ∈ T, ∀ x ∈ r, Int64 x) (hlen : L.length + 8 * (enRows T).length <= 70000000) :
  Calls Try.prog 38 #[v, vt] w fun e w' => ∃ u, e = .returned u /\ GrowB w w0.heap.size v w' u (L ++ bytesN (enRows T)) := by
  obtain ⟨A, cap, rfl, l1, l2⟩ := hr.form
  have hrl : (enRows T).length = (T.flatMap enN).length + 1 := rfl
  have hge := flat_ge (en := enN) codecN.pos T
  obtain ⟨m, hm⟩ : ∃ m, T.length = m := ⟨_, rfl⟩
  have HLN : Hid (L.length + 8 * ((T.flatMap enN).length + 1) <= 70000000) := Lib.hid (by rw [<- hrl]; exact hlen)
  rw [hm] at l1 hge ⊢
  have hm9 : m <= 70000000 := by omega
  have HO := Lib.hid h; have HR := Lib.hid hr; have HI := Lib.hid hi; have HM := Lib.hid hm; have HB := Lib.hid hb
  have HC0 := Lib.hid (rnum_any h (x := (m : Int)) hb.size (by unfold Int64; omega) (by omega))
  clear h hb hr hi hlen hrl hge hm
  go_enter Try.func38, Try.ntmps38
  go_wp2_with fail
  refine HC0.out.mono ?_
  rintro e w1 ⟨u1, rfl, hg⟩
  have HG1 : Hid (GrowB w w0.heap.size v w1 u1 (L ++ bytesN ((m : Int) :: (T.take 0).flatMap enN))) := Lib.hid (by rw [List.take_zero, List.flatMap_nil, bytesN_one]; exact hg)
  clear hg HC0
  go_wp2_with fail
  go_loopw [0, 5] (fun u vi wr => ∃ i : Nat, vi = .int .i64 (i : Int) /\ i <= m /\ Hid (GrowB w w0.heap.size v wr u (L ++ bytesN ((m : Int) :: (T.take i).flatMap enN)))) (fun _ vi _ => m - (intOf vi).toNat)
  case atStart => exact ⟨0, rfl, Nat.zero_le _, HG1⟩
  case round =>
   clear HG1
   obtain ⟨i, rfl, hi, HG⟩ := hrel
   have i0 : (0 : Int) <= (i : Int) := Int.natCast_nonneg _
   by_cases hlt : i < m
   ·have i1 : (i : Int) < (m : Int) := by omega
    have hil : i < T.length := by rw [HM.out]; exact hlt
    have hbw := HG.out.base HO.out HB.out
    obtain ⟨g, o, A2, k, c2, ea, hk, hc0, hrd, hkc, hc9⟩ := (show RowsI w0 (.slice A m cap) T by rw [<- HM.out]; exact HR.out).at_ hil
    subst ea
    have hcx : wr.cell? ⟨g, o + i, none⟩ = some (.slice A2 k c2) := bel_m hbw hc0
    have hone := flat_one_le enN T hil []
    have hkk : (enN (T.getD i [])).length = 1 + k := by rw [enN_len, hk]
    have hst : L ++ bytesN ((m : Int) :: (T.take (i + 1)).flatMap enN) = (L ++ bytesN ((m : Int) :: (T.take i).flatMap enN)) ++ bytesN (enN (T.getD i [])) := by
     rw [flat_take_one enN T hil [], <- List.cons_append, bytesN_app, <- List.append_assoc]
    have hPl : (L ++ bytesN ((m : Int) :: (T.take i).flatMap enN)).length + 8 * k + 8 <= 80000000 := by
     rw [List.length_append, bytesN_len, List.length_cons]
     have := HLN.out
     omega
    have HC := Lib.hid (rnums_any HG.out.o hbw hrd (fun x hx => HI.out _ (by rw [List.getD_eq_getElem?_getD, List.getElem?_eq_getElem hil]; exact List.getElem_mem hil) x hx) hPl); have HST := Lib.hid hst
    clear hil hbw hk hc0 hrd hone hkk hst hPl
    go_wp2_with fail
    refine HC.out.mono ?_
    rintro e w2 ⟨u2, rfl, hg⟩
    have HG2 := Lib.hid (HG.out.trans hg)
    clear hg HC hcx
    go_wp2_with fail
    refine ⟨⟨i + 1, by go_num, by omega, Lib.hid ?_⟩, by simp [intOf]; omega⟩
    rw [HST.out]
    exact HG2.out
   ·obtain rfl : i = m := by omega
    have hp := HG.out
    rw [List.take_of_length_le (by rw [HM.out]; exact Nat.le_refl _)] at hp
    have HPF := Lib.hid hp
    clear hp
    go_wp2_with fail
    go_ret
    refine ⟨_, rfl, ?_⟩
    have := HPF.out
    rw [<- HM.out] at this
    exact this
end Go.Proofs.Ytjkcglgkdclidaa
namespace Go.Proofs.Ytjkcglgkdclidaa
open Go Go.RowKit Go.Proofs
theorem rsave_any {w : World} {vc vl vbn vbo vfn vfe : Value} {t : Tab} (ht : TabR w vc vl vbn vbo vfn vfe t) (hi : IntsT t) (hlen : (enT t).length <= 1000000) :
  Calls Try.prog 17 #[.agg #[vc, vl, vbn, vbo, vfn, vfe]] w fun e w' => ∃ v, e = .returned v /\ BRow w' w.heap.size v (saveT t) /\ Below w.heap.size w w' := by
  obtain ⟨C, cc, rfl, l1, l2, -⟩ := ht.c.form
  obtain ⟨L0, lc, rfl, l3, l4, -⟩ := ht.l.form
  obtain ⟨BN, bc, e1, l5, l6⟩ := ht.bn.form
  obtain ⟨BO, oc, rfl, l7, l8, -⟩ := ht.bo.form
  obtain ⟨FN, fc, e2, l9, l10⟩ := ht.fn.form
  obtain ⟨FE, ec, e3, l11, l12⟩ := ht.fe.form
  subst e1 e2 e3
  have hlen6 : (enN t.cuts).length = 1 + t.cuts.length /\ (enN t.letters).length = 1 + t.letters.length /\ (enN t.bo).length = 1 + t.bo.length /\ t.fe.length <= (enEmits t.fe).length := ⟨enN_len _, enN_len _, enN_len _, by have := flat_ge (en := enVecs) codecVecs.pos t.fe; show _ <= (t.fe.flatMap enVecs).length + 1; omega⟩
  have HLN : Hid ((enN t.cuts).length + (enN t.letters).length + (enRows t.bn).length + (enN t.bo).length + (enRows t.fn).length + (enEmits t.fe).length <= 1000000) := Lib.hid (by rw [<- enT_parts]; exact hlen)
  have hm9 : t.fe.length <= 1000000 := by have := HLN.out; omega
  obtain ⟨bx, hbx⟩ : ∃ b, b = w.heap.size := ⟨_, rfl⟩
  obtain ⟨V0, hV0⟩ : ∃ W, w.alloc (.cells #[.slice C t.cuts.length cc, .slice L0 t.letters.length lc, .slice BN t.bn.length bc, .slice BO t.bo.length oc, .slice FN t.fn.length fc, .slice FE t.fe.length ec] 31) = W := ⟨_, rfl⟩
  have hb0 : Below w.heap.size w V0 := by rw [<- hV0]; exact (Below.refl _ _).alloc (Nat.le_refl _) _
  have XB0 : Hid (Blk V0 bx 31 #[.slice C t.cuts.length cc, .slice L0 t.letters.length lc, .slice BN t.bn.length bc, .slice BO t.bo.length oc, .slice FN t.fn.length fc, .slice FE t.fe.length ec]) := Lib.hid (by rw [<- hV0, hbx]; exact Blk.new _ _ _)
  have HT := Lib.hid ht; have HI := Lib.hid hi; have HV0 := Lib.hid hV0; have EBX := Lib.hid hbx; have HB0 := Lib.hid hb0; have HL6 := Lib.hid hlen6
  clear ht hi hlen hV0 hbx hb0
  go_enter Try.func17, Try.ntmps17
  go_wp2_with fail
  rw [HV0.out, <- EBX.out]
  have HB1 := Lib.hid (HB0.out.drew)
  have XB1 := Lib.hid (Blk.drew XB0.out)
  clear XB0 HB0
  refine region_x 14 (fun W : World => W.cell? ⟨bx, 0, none⟩ = some (.slice C t.cuts.length cc) /\ W.cell? ⟨bx, 1, none⟩ = some (.slice L0 t.letters.length lc) /\ W.cell? ⟨bx, 2, none⟩ = some (.slice BN t.bn.length bc) /\ W.cell? ⟨bx, 3, none⟩ = some (.slice BO t.bo.length oc)) (by kernel_rfl) ?_
  generalize V0.drew = V1 at *
  have hS : (fun W : World => W.cell? ⟨bx, 0, none⟩ = some (.slice C t.cuts.length cc) /\ W.cell? ⟨bx, 1, none⟩ = some (.slice L0 t.letters.length lc) /\ W.cell? ⟨bx, 2, none⟩ = some (.slice BN t.bn.length bc) /\ W.cell? ⟨bx, 3, none⟩ = some (.slice BO t.bo.length oc)) V1 := ⟨XB1.out.cell 0, XB1.out.cell 1, XB1.out.cell 2, XB1.out.cell 3⟩
  refine tkx (i := 0) (v := ?_) hS ?_ ?_
  rotate_left
  ·rintro w' ⟨s0', s1', s2', s3'⟩
   go_simp
   try with_reducible rfl
  try simp only [Act.put, zq1, zq2, zq3, zq4, zq5, zq6]
  refine tkx (i := 1) (v := ?_) hS ?_ ?_
  rotate_left
  ·rintro w' ⟨s0', s1', s2', s3'⟩
   go_simp
   try with_reducible rfl
  try simp only [Act.put, zq1, zq2, zq3, zq4, zq5, zq6]
  refine tkx (i := 3) (v := ?_) hS ?_ ?_
  rotate_left
  ·rintro w' ⟨s0', s1', s2', s3'⟩
   go_simp
   try with_reducible rfl
  try simp only [Act.put, zq1, zq2, zq3, zq4, zq5, zq6]
  refine tkx (i := 4) (v := ?_) hS ?_ ?_
  rotate_left
  ·rintro w' ⟨s0', s1', s2', s3'⟩
   go_simp
   try with_reducible rfl
  try simp only [Act.put, zq1, zq2, zq3, zq4, zq5, zq6]
  refine tkx (i := 6) (v := ?_) hS ?_ ?_
  rotate_left
  ·rintro w' ⟨s0', s1', s2', s3'⟩
   go_simp
   try with_reducible rfl
  try simp only [Act.put, zq1, zq2, zq3, zq4, zq5, zq6]
  refine tkx (i := 7) (v := ?_) hS ?_ ?_
  rotate_left
  ·rintro w' ⟨s0', s1', s2', s3'⟩
   go_simp
   try with_reducible rfl
  try simp only [Act.put, zq1, zq2, zq3, zq4, zq5, zq6]
  refine tkx (i := 8) (v := ?_) hS ?_ ?_
  rotate_left
  ·rintro w' ⟨s0', s1', s2', s3'⟩
   go_simp
   try with_reducible rfl
  try simp only [Act.put, zq1, zq2, zq3, zq4, zq5, zq6]
  refine tkx (i := 10) (v := ?_) hS ?_ ?_
  rotate_left
  ·rintro w' ⟨s0', s1', s2', s3'⟩
   go_simp
   try with_reducible rfl
  try simp only [Act.put, zq1, zq2, zq3, zq4, zq5, zq6]
  refine tkx (i := 11) (v := ?_) hS ?_ ?_
  rotate_left
  ·rintro w' ⟨s0', s1', s2', s3'⟩
   go_simp
   try with_reducible rfl
  try simp only [Act.put, zq1, zq2, zq3, zq4, zq5, zq6]
  refine tkx (i := 12) (v := ?_) hS ?_ ?_
  rotate_left
  ·rintro w' ⟨s0', s1', s2', s3'⟩
   go_simp
   try with_reducible rfl
  try simp only [Act.put, zq1, zq2, zq3, zq4, zq5, zq6]
  refine anyX_g (i := 2) (by kernel_rfl) (by decide) rfl (by rfl) ?_
  intro K hK
  try simp only [zq1, zq2, zq3]
  refine wp_enterE #[.slice none 0 0, .slice C t.cuts.length cc] Try.func37 (by kernel_rfl) (by kernel_rfl) ?_ (rnums_any (BRow.nil V1 w.heap.size) HB1.out HT.out.c HI.out.c (by simp only [List.length_append, bytesN_len, List.length_nil]; have := HLN.out; have := hlen6; omega)) ?_
  ·go_simp
  rintro e V2 ⟨u2, rfl, hg⟩
  have XB2 : Hid (Blk V2 bx 31 #[.slice C t.cuts.length cc, .slice L0 t.letters.length lc, .slice BN t.bn.length bc, .slice BO t.bo.length oc, .slice FN t.fn.length fc, .slice FE t.fe.length ec]) := Lib.hid (hg.fr.blk XB1.out (fun e => by cases e))
  have HG2 := Lib.hid (hg)
  clear hg XB1 hS
  have hS : (fun W : World => W.cell? ⟨bx, 0, none⟩ = some (.slice C t.cuts.length cc) /\ W.cell? ⟨bx, 1, none⟩ = some (.slice L0 t.letters.length lc) /\ W.cell? ⟨bx, 2, none⟩ = some (.slice BN t.bn.length bc) /\ W.cell? ⟨bx, 3, none⟩ = some (.slice BO t.bo.length oc)) V2 := ⟨XB2.out.cell 0, XB2.out.cell 1, XB2.out.cell 2, XB2.out.cell 3⟩
  refine ⟨_, rfl, ?_⟩
  refine hK _ _ hS ?_
  clear hK
  try simp only [Act.put, zq1, zq2, zq3, zq4, zq5, zq6]
  refine anyX_g (i := 5) (by kernel_rfl) (by decide) rfl (by rfl) ?_
  intro K hK
  try simp only [zq1, zq2, zq3]
  refine wp_enterE #[u2, .slice L0 t.letters.length lc] Try.func37 (by kernel_rfl) (by kernel_rfl) ?_ (rnums_any HG2.out.o (HG2.out.base (BRow.nil _ _) HB1.out) HT.out.l HI.out.l (by simp only [List.length_append, bytesN_len, List.length_nil]; have := HLN.out; have := hlen6; omega)) ?_
  ·go_simp
  rintro e V3 ⟨u3, rfl, hg⟩
  have XB3 : Hid (Blk V3 bx 31 #[.slice C t.cuts.length cc, .slice L0 t.letters.length lc, .slice BN t.bn.length bc, .slice BO t.bo.length oc, .slice FN t.fn.length fc, .slice FE t.fe.length ec]) := Lib.hid (hg.fr.blk XB2.out (fun e => HG2.out.o.ne XB2.out (by decide) e))
  have HG3 := Lib.hid (HG2.out.trans hg)
  clear hg XB2 hS HG2
  have hS : (fun W : World => W.cell? ⟨bx, 0, none⟩ = some (.slice C t.cuts.length cc) /\ W.cell? ⟨bx, 1, none⟩ = some (.slice L0 t.letters.length lc) /\ W.cell? ⟨bx, 2, none⟩ = some (.slice BN t.bn.length bc) /\ W.cell? ⟨bx, 3, none⟩ = some (.slice BO t.bo.length oc)) V3 := ⟨XB3.out.cell 0, XB3.out.cell 1, XB3.out.cell 2, XB3.out.cell 3⟩
  refine ⟨_, rfl, ?_⟩
  refine hK _ _ hS ?_
  clear hK
  try simp only [Act.put, zq1, zq2, zq3, zq4, zq5, zq6]
  refine anyX_g (i := 9) (by kernel_rfl) (by decide) rfl (by rfl) ?_
  intro K hK
  try simp only [zq1, zq2, zq3]
  refine wp_enterE #[u3, .slice BN t.bn.length bc] Try.func38 (by kernel_rfl) (by kernel_rfl) ?_ (rrows_any HG3.out.o (HG3.out.base (BRow.nil _ _) HB1.out) HT.out.bn HI.out.bn (by simp only [List.length_append, bytesN_len, List.length_nil]; have := HLN.out; have := hlen6; omega)) ?_
  ·go_simp
  rintro e V4 ⟨u4, rfl, hg⟩
  have XB4 : Hid (Blk V4 bx 31 #[.slice C t.cuts.length cc, .slice L0 t.letters.length lc, .slice BN t.bn.length bc, .slice BO t.bo.length oc, .slice FN t.fn.length fc, .slice FE t.fe.length ec]) := Lib.hid (hg.fr.blk XB3.out (fun e => HG3.out.o.ne XB3.out (by decide) e))
  have HG4 := Lib.hid (HG3.out.trans hg)
  clear hg XB3 hS HG3
  have hS : (fun W : World => W.cell? ⟨bx, 0, none⟩ = some (.slice C t.cuts.length cc) /\ W.cell? ⟨bx, 1, none⟩ = some (.slice L0 t.letters.length lc) /\ W.cell? ⟨bx, 2, none⟩ = some (.slice BN t.bn.length bc) /\ W.cell? ⟨bx, 3, none⟩ = some (.slice BO t.bo.length oc)) V4 := ⟨XB4.out.cell 0, XB4.out.cell 1, XB4.out.cell 2, XB4.out.cell 3⟩
  refine ⟨_, rfl, ?_⟩
  refine hK _ _ hS ?_
  clear hK
  try simp only [Act.put, zq1, zq2, zq3, zq4, zq5, zq6]
  refine anyX_g (i := 13) (by kernel_rfl) (by decide) rfl (by rfl) ?_
  intro K hK
  try simp only [zq1, zq2, zq3]
  refine wp_enterE #[u4, .slice BO t.bo.length oc] Try.func37 (by kernel_rfl) (by kernel_rfl) ?_ (rnums_any HG4.out.o (HG4.out.base (BRow.nil _ _) HB1.out) HT.out.bo HI.out.bo (by simp only [List.length_append, bytesN_len, List.length_nil]; have := HLN.out; have := hlen6; omega)) ?_
  ·go_simp
  rintro e V5 ⟨u5, rfl, hg⟩
  have XB5 : Hid (Blk V5 bx 31 #[.slice C t.cuts.length cc, .slice L0 t.letters.length lc, .slice BN t.bn.length bc, .slice BO t.bo.length oc, .slice FN t.fn.length fc, .slice FE t.fe.length ec]) := Lib.hid (hg.fr.blk XB4.out (fun e => HG4.out.o.ne XB4.out (by decide) e))
  have HG5 := Lib.hid (HG4.out.trans hg)
  clear hg XB4 hS HG4
  have hS : (fun W : World => W.cell? ⟨bx, 0, none⟩ = some (.slice C t.cuts.length cc) /\ W.cell? ⟨bx, 1, none⟩ = some (.slice L0 t.letters.length lc) /\ W.cell? ⟨bx, 2, none⟩ = some (.slice BN t.bn.length bc) /\ W.cell? ⟨bx, 3, none⟩ = some (.slice BO t.bo.length oc)) V5 := ⟨XB5.out.cell 0, XB5.out.cell 1, XB5.out.cell 2, XB5.out.cell 3⟩
  refine ⟨_, rfl, ?_⟩
  refine hK _ _ hS ?_
  clear hK
  try simp only [Act.put, zq1, zq2, zq3, zq4, zq5, zq6]
  clear hS
  refine anyX_last (by kernel_rfl) (by kernel_rfl) rfl rfl ?_
  try simp only [zq1, zq2, zq3]
  go_simp
  try apply_assumption
  go_wp2_with fail
  have HG6 := Lib.hid (HG5.out.below (W' := V5.drew) (Below.refl _ _).drew)
  have XB6 := Lib.hid (Blk.drew XB5.out)
  clear HG5 XB5
  refine region_x 10 (fun W : World => W.cell? ⟨bx, 4, none⟩ = some (.slice FN t.fn.length fc) /\ W.cell? ⟨bx, 5, none⟩ = some (.slice FE t.fe.length ec)) (by kernel_rfl) ?_
  generalize V5.drew = V6 at *
  obtain ⟨u6, hu6⟩ : ∃ u, u = u5 := ⟨_, rfl⟩
  rw [<- hu6] at HG6 ⊢
  clear hu6
  have hS : (fun W : World => W.cell? ⟨bx, 4, none⟩ = some (.slice FN t.fn.length fc) /\ W.cell? ⟨bx, 5, none⟩ = some (.slice FE t.fe.length ec)) V6 := ⟨XB6.out.cell 4, XB6.out.cell 5⟩
  refine tkx (i := 0) (v := ?_) hS ?_ ?_
  rotate_left
  ·rintro w' ⟨s0', s1'⟩
   go_simp
   try with_reducible rfl
  try simp only [Act.put, zq1, zq2, zq3, zq4, zq5, zq6]
  refine tkx (i := 1) (v := ?_) hS ?_ ?_
  rotate_left
  ·rintro w' ⟨s0', s1'⟩
   go_simp
   try with_reducible rfl
  try simp only [Act.put, zq1, zq2, zq3, zq4, zq5, zq6]
  refine tkx (i := 2) (v := ?_) hS ?_ ?_
  rotate_left
  ·rintro w' ⟨s0', s1'⟩
   go_simp
   try with_reducible rfl
  try simp only [Act.put, zq1, zq2, zq3, zq4, zq5, zq6]
  refine tkx (i := 3) (v := ?_) hS ?_ ?_
  rotate_left
  ·rintro w' ⟨s0', s1'⟩
   go_simp
   try with_reducible rfl
  try simp only [Act.put, zq1, zq2, zq3, zq4, zq5, zq6]
  refine tkx (i := 5) (v := ?_) hS ?_ ?_
  rotate_left
  ·rintro w' ⟨s0', s1'⟩
   go_simp
   try with_reducible rfl
  try simp only [Act.put, zq1, zq2, zq3, zq4, zq5, zq6]
  refine tkx (i := 6) (v := ?_) hS ?_ ?_
  rotate_left
  ·rintro w' ⟨s0', s1'⟩
   go_simp
   try with_reducible rfl
  try simp only [Act.put, zq1, zq2, zq3, zq4, zq5, zq6]
  refine tkx (i := 7) (v := ?_) hS ?_ ?_
  rotate_left
  ·rintro w' ⟨s0', s1'⟩
   go_simp
   try with_reducible rfl
  try simp only [Act.put, zq1, zq2, zq3, zq4, zq5, zq6]
  refine tkx (i := 8) (v := ?_) hS ?_ ?_
  rotate_left
  ·rintro w' ⟨s0', s1'⟩
   go_simp
   try with_reducible rfl
  try simp only [Act.put, zq1, zq2, zq3, zq4, zq5, zq6]
  refine anyX_g (i := 4) (by kernel_rfl) (by decide) rfl (by rfl) ?_
  intro K hK
  try simp only [zq1, zq2, zq3]
  refine wp_enterE #[u6, .slice FN t.fn.length fc] Try.func38 (by kernel_rfl) (by kernel_rfl) ?_ (rrows_any HG6.out.o (HG6.out.base (BRow.nil _ _) HB1.out) HT.out.fn HI.out.fn (by simp only [List.length_append, bytesN_len, List.length_nil]; have := HLN.out; have := hlen6; omega)) ?_
  ·go_simp
  rintro e V7 ⟨u7, rfl, hg⟩
  have XB7 : Hid (Blk V7 bx 31 #[.slice C t.cuts.length cc, .slice L0 t.letters.length lc, .slice BN t.bn.length bc, .slice BO t.bo.length oc, .slice FN t.fn.length fc, .slice FE t.fe.length ec]) := Lib.hid (hg.fr.blk XB6.out (fun e => HG6.out.o.ne XB6.out (by decide) e))
  have HG7 := Lib.hid (HG6.out.trans hg)
  clear hg XB6 hS HG6
  have hS : (fun W : World => W.cell? ⟨bx, 4, none⟩ = some (.slice FN t.fn.length fc) /\ W.cell? ⟨bx, 5, none⟩ = some (.slice FE t.fe.length ec)) V7 := ⟨XB7.out.cell 4, XB7.out.cell 5⟩
  refine ⟨_, rfl, ?_⟩
  refine hK _ _ hS ?_
  clear hK
  try simp only [Act.put, zq1, zq2, zq3, zq4, zq5, zq6]
  refine anyX_g (i := 9) (by kernel_rfl) (by decide) rfl (by rfl) ?_
  intro K hK
  try simp only [zq1, zq2, zq3]
  refine wp_enterE #[u7, .int .i64 (t.fe.length : Int)] Try.func39 (by kernel_rfl) (by kernel_rfl) ?_ (rnum_any HG7.out.o (HG7.out.base (BRow.nil _ _) HB1.out).size (by unfold Int64; omega) (by simp only [List.length_append, bytesN_len, List.length_nil]; have := HLN.out; have := hlen6; omega)) ?_
  ·go_simp
  rintro e V8 ⟨u8, rfl, hg⟩
  have XB8 : Hid (Blk V8 bx 31 #[.slice C t.cuts.length cc, .slice L0 t.letters.length lc, .slice BN t.bn.length bc, .slice BO t.bo.length oc, .slice FN t.fn.length fc, .slice FE t.fe.length ec]) := Lib.hid (hg.fr.blk XB7.out (fun e => HG7.out.o.ne XB7.out (by decide) e))
  have HG8 := Lib.hid (HG7.out.trans hg)
  clear hg XB7 hS HG7
  have hS : (fun W : World => W.cell? ⟨bx, 4, none⟩ = some (.slice FN t.fn.length fc) /\ W.cell? ⟨bx, 5, none⟩ = some (.slice FE t.fe.length ec)) V8 := ⟨XB8.out.cell 4, XB8.out.cell 5⟩
  refine ⟨_, rfl, ?_⟩
  refine hK _ _ hS ?_
  clear hK
  try simp only [Act.put, zq1, zq2, zq3, zq4, zq5, zq6]
  clear hS
  refine anyX_last (by kernel_rfl) (by kernel_rfl) rfl rfl ?_
  try simp only [zq1, zq2, zq3]
  go_simp
  try apply_assumption
  go_wp2_with fail
  obtain ⟨m, hm⟩ : ∃ m, t.fe.length = m := ⟨_, rfl⟩
  obtain ⟨P0, hP0⟩ : ∃ P, [] ++ bytesN (enN t.cuts) ++ bytesN (enN t.letters) ++ bytesN (enRows t.bn) ++ bytesN (enN t.bo) ++ bytesN (enRows t.fn) ++ be8 (m : Int) = P := ⟨_, rfl⟩
  rw [hm] at XB8 HG8 hm9 l11 ⊢
  rw [hP0] at HG8
  have HP0 := Lib.hid hP0; have HM := Lib.hid hm
  have HG9 : Hid (GrowB V1 w.heap.size (.slice none 0 0) V8 u8 (P0 ++ bytesN ((t.fe.take 0).flatMap enVecs))) := Lib.hid (by rw [List.take_zero, List.flatMap_nil]; simpa [bytesN] using HG8.out)
  have hP0l : P0.length + 8 * (t.fe.flatMap enVecs).length <= 8000000 := by
   rw [<- hP0]
   simp only [List.length_append, bytesN_len, List.length_nil, be8_len]
   have := HLN.out
   have e : (enEmits t.fe).length = (t.fe.flatMap enVecs).length + 1 := rfl
   omega
  have HPL := Lib.hid hP0l
  clear hP0 hm hP0l HG8
  go_loopw [3, 4] (fun u vi wr => ∃ i : Nat, vi = .int .i64 (i : Int) /\ i <= m /\ Hid (GrowB V1 w.heap.size (.slice none 0 0) wr u (P0 ++ bytesN ((t.fe.take i).flatMap enVecs))) /\ Hid (Blk wr bx 31 #[.slice C t.cuts.length cc, .slice L0 t.letters.length lc, .slice BN t.bn.length bc, .slice BO t.bo.length oc, .slice FN t.fn.length fc, .slice FE m ec])) (fun _ vi _ => m - (intOf vi).toNat)
  case atStart => exact ⟨0, rfl, Nat.zero_le _, HG9, XB8⟩
  case round =>
   clear HG9 XB8
   obtain ⟨i, rfl, hi, HG, XB⟩ := hrel
   have i0 : (0 : Int) <= (i : Int) := Int.natCast_nonneg _
   have hc5 := XB.out.cell 5
   simp only [List.getElem?_toArray, List.getElem?_cons_zero, List.getElem?_cons_succ] at hc5
   by_cases hlt : i < m
   ·have i1 : (i : Int) < (m : Int) := by omega
    have hil : i < t.fe.length := by rw [HM.out]; exact hlt
    have hbw := HG.out.base (BRow.nil _ _) HB1.out
    obtain ⟨g, o, A2, k, c2, ea, hk, hc0, hrd, hkc, hc9⟩ := (show EmitR w (.slice FE m ec) t.fe by rw [<- HM.out]; exact HT.out.fe).at_ hil
    subst ea
    have hcx : wr.cell? ⟨g, o + i, none⟩ = some (.slice A2 k c2) := bel_m hbw hc0
    have hone := flat_one_le enVecs t.fe hil []
    have hkk : (enVecs (t.fe.getD i [])).length = 1 + 3 * k := by rw [enVecs_len, hk]
    have hstep := flat_take_one enVecs t.fe hil []
    obtain ⟨R, hR⟩ : ∃ R, t.fe.getD i [] = R := ⟨_, rfl⟩
    have hRI : ∀ u ∈ R, ∀ x ∈ enVec u, Int64 x := by
     rw [<- hR]
     exact HI.out.fe _ (by rw [List.getD_eq_getElem?_getD, List.getElem?_eq_getElem hil]; exact List.getElem_mem hil)
    obtain ⟨P, hP⟩ : ∃ P, P0 ++ bytesN ((t.fe.take i).flatMap enVecs) = P := ⟨_, rfl⟩
    have hPl : P.length + 8 * (1 + 3 * k) <= 8000000 := by rw [<- hP, List.length_append, bytesN_len]; have := HPL.out; omega
    rw [hR] at hk hrd hstep
    have HST : Hid (P0 ++ bytesN ((t.fe.take (i + 1)).flatMap enVecs) = P ++ bytesN (enVecs R)) := Lib.hid (by
     rw [hstep, bytesN_app, <- List.append_assoc, hP])
    rw [hP] at HG
    have HC := Lib.hid (rnum_any HG.out.o hbw.size (x := (k : Int)) (by unfold Int64; omega) (by omega))
    have HRD := Lib.hid hrd; have HRI := Lib.hid hRI; have HK := Lib.hid hk; have HPLk := Lib.hid hPl; have HC0 := Lib.hid hc0
    have hk9 : k <= 1000000 := by omega
    clear hbw hrd hone hkk hstep hc0 hil hR hRI hP hPl hk
    go_wp2_with fail
    refine HC.out.mono ?_
    rintro e w2 ⟨u2, rfl, hg⟩
    have HG2 : Hid (GrowB V1 w.heap.size (.slice none 0 0) w2 u2 (P ++ bytesN ((k : Int) :: (R.take 0).flatMap enVec))) := Lib.hid (by rw [List.take_zero, List.flatMap_nil, bytesN_one]; exact HG.out.trans hg)
    have XB2 : Hid (Blk w2 bx 31 #[.slice C t.cuts.length cc, .slice L0 t.letters.length lc, .slice BN t.bn.length bc, .slice BO t.bo.length oc, .slice FN t.fn.length fc, .slice (some ⟨g, o, none⟩) m ec]) := Lib.hid (hg.fr.blk XB.out (fun e => HG.out.o.ne XB.out (by decide) e))
    clear hg HC hcx hc5 HG XB
    go_wp2_with fail
    go_loopw [3, 5] (fun u vj wr => ∃ j : Nat, vj = .int .i64 (j : Int) /\ j <= k /\ Hid (GrowB V1 w.heap.size (.slice none 0 0) wr u (P ++ bytesN ((k : Int) :: (R.take j).flatMap enVec))) /\ Hid (Blk wr bx 31 #[.slice C t.cuts.length cc, .slice L0 t.letters.length lc, .slice BN t.bn.length bc, .slice BO t.bo.length oc, .slice FN t.fn.length fc, .slice (some ⟨g, o, none⟩) m ec])) (fun _ vj _ => k - (intOf vj).toNat)
    case atStart => exact ⟨0, rfl, Nat.zero_le _, HG2, XB2⟩
    case round =>
     clear HG2 XB2
     obtain ⟨j, rfl, hj, HG, XB⟩ := hrel
     have j0 : (0 : Int) <= (j : Int) := Int.natCast_nonneg _
     have hc5 := XB.out.cell 5
     simp only [List.getElem?_toArray, List.getElem?_cons_zero, List.getElem?_cons_succ] at hc5
     have hbw := HG.out.base (BRow.nil _ _) HB1.out
     have hcx : wr.cell? ⟨g, o + i, none⟩ = some (.slice A2 k c2) := bel_m hbw HC0.out
     by_cases hlj : j < k
     ·have j1 : (j : Int) < (k : Int) := by omega
      have hjl : j < R.length := by rw [<- HK.out]; exact hlj
      obtain ⟨u, hu⟩ : ∃ u, R.getD j (0, 0, 0) = u := ⟨_, rfl⟩
      have hx : R[j]? = some u := by rw [<- hu, List.getD_eq_getElem?_getD, List.getElem?_eq_getElem hjl]; rfl
      have hrd0 := HRD.out
      obtain ⟨g2, o2, e, -, hcc⟩ := ReadsE.at hrd0 encV_len (by decide) j _ hx
      subst e
      have hone := flat_one_le enVec R hjl (0, 0, 0)
      have htot : (R.flatMap enVec).length = 3 * k := by
       have := enVecs_len R
       have e2 : (enVecs R).length = (R.flatMap enVec).length + 1 := rfl
       rw [<- HK.out] at this
       omega
      have hthree : (enVec (R.getD j (0, 0, 0))).length = 3 := rfl
      have hstep : P ++ bytesN ((k : Int) :: (R.take (j + 1)).flatMap enVec) = (P ++ bytesN ((k : Int) :: (R.take j).flatMap enVec)) ++ bytesN (enVec u) := by
       rw [flat_take_one enVec R hjl (0, 0, 0), hu, <- List.cons_append, bytesN_app, <- List.append_assoc]
      obtain ⟨P2, hP2⟩ : ∃ Q, P ++ bytesN ((k : Int) :: (R.take j).flatMap enVec) = Q := ⟨_, rfl⟩
      have hlen3 : P2.length + 8 * 3 <= 9000000 := by
       rw [<- hP2, List.length_append, bytesN_len, List.length_cons]
       have := HPLk.out
       omega
      rw [hP2] at HG hstep
      have HST2 := Lib.hid hstep; have HIN : Hid (∀ q ∈ enVec u, Int64 q) := Lib.hid (HRI.out _ (List.mem_of_getElem? hx))
      have HCC : Hid (∀ c (v : Int), c < 3 -> (enVec u).getD c 0 = v -> w.cell? ⟨g2, o2 + j * 3 + c, none⟩ = some (.int .i64 v)) := Lib.hid (fun c v hc hv => hcc c _ (by
       subst hv
       rcases (show c = 0 \/ c = 1 \/ c = 2 by omega) with rfl | rfl | rfl <;> rfl))
      have HL3 := Lib.hid hlen3
      have HG3 : Hid (GrowB V1 w.heap.size (.slice none 0 0) wr u3 (P2 ++ bytesN ((enVec u).take 0))) := Lib.hid (by rw [List.take_zero]; simpa [bytesN] using HG.out)
      have XB3 := XB
      clear hjl hu hx hrd0 hcc hone htot hthree hstep hlen3 hbw hP2 HG XB
      go_wp2_with fail
      go_loopw [3, 6] (fun u9 vc wr => ∃ c : Nat, vc = .int .i64 (c : Int) /\ c <= 3 /\ Hid (GrowB V1 w.heap.size (.slice none 0 0) wr u9 (P2 ++ bytesN ((enVec u).take c))) /\ Hid (Blk wr bx 31 #[.slice C t.cuts.length cc, .slice L0 t.letters.length lc, .slice BN t.bn.length bc, .slice BO t.bo.length oc, .slice FN t.fn.length fc, .slice (some ⟨g, o, none⟩) m ec])) (fun _ vc _ => 3 - (intOf vc).toNat)
      case atStart => exact ⟨0, rfl, Nat.zero_le _, HG3, XB3⟩
      case round =>
       clear HG3 XB3 hc5 hcx
       obtain ⟨c, rfl, hc, HG, XB⟩ := hrel
       have c0 : (0 : Int) <= (c : Int) := Int.natCast_nonneg _
       by_cases hl3 : c < 3
       ·have c1 : (c : Int) < 3 := by omega
        have hc5 := XB.out.cell 5
        simp only [List.getElem?_toArray, List.getElem?_cons_zero, List.getElem?_cons_succ] at hc5
        have hbw := HG.out.base (BRow.nil _ _) HB1.out
        have hcx : wr.cell? ⟨g, o + i, none⟩ = some (.slice (some ⟨g2, o2, none⟩) k c2) := bel_m hbw HC0.out
        obtain ⟨x, hx⟩ : ∃ x, (enVec u).getD c 0 = x := ⟨_, rfl⟩
        have hcv : wr.cell? ⟨g2, o2 + j * 3 + c, none⟩ = some (.int .i64 x) := bel_m hbw (HCC.out c x hl3 hx)
        have hcl : c < (enVec u).length := hl3
        have hxi : Int64 x := HIN.out _ (by rw [<- hx]; exact getD_mem hcl)
        have hst := take_succ_bytes hcl P2
        rw [hx] at hst
        have HC := Lib.hid (rnum_any HG.out.o hbw.size hxi (by rw [List.length_append, bytesN_len, List.length_take]; have := HL3.out; omega))
        have HST3 := Lib.hid hst
        clear hbw hx hcl hxi hst
        go_wp2_with fail
        refine HC.out.mono ?_
        rintro e w4 ⟨u4, rfl, hg⟩
        have HG4 := Lib.hid (HG.out.trans hg)
        have XB4 : Hid (Blk w4 bx 31 #[.slice C t.cuts.length cc, .slice L0 t.letters.length lc, .slice BN t.bn.length bc, .slice BO t.bo.length oc, .slice FN t.fn.length fc, .slice (some ⟨g, o, none⟩) m ec]) := Lib.hid (hg.fr.blk XB.out (fun e => HG.out.o.ne XB.out (by decide) e))
        clear hg HC hcx hc5 hcv HG XB
        go_wp2_with fail
        refine ⟨⟨c + 1, by go_num, by omega, Lib.hid ?_, XB4⟩, by simp [intOf]; omega⟩
        rw [HST3.out]
        exact HG4.out
       ·obtain rfl : c = 3 := by omega
        have hp := HG.out
        have e3 : (enVec u).take 3 = enVec u := rfl
        rw [e3] at hp
        have HPF := Lib.hid hp
        clear hp HG
        go_wp2_with fail
        refine ⟨⟨j + 1, by go_num, by omega, Lib.hid ?_, XB⟩, by simp [intOf]; omega⟩
        rw [HST2.out]
        exact HPF.out
     ·obtain rfl : j = k := by omega
      have hp := HG.out
      rw [List.take_of_length_le (by rw [<- HK.out]; exact Nat.le_refl _)] at hp
      have HPF : Hid (GrowB V1 w.heap.size (.slice none 0 0) wr u3 (P ++ bytesN (enVecs R))) := Lib.hid (by
       have e : enVecs R = (R.length : Int) :: R.flatMap enVec := rfl
       rw [e, <- HK.out]
       exact hp)
      clear hp HG hbw
      go_wp2_with fail
      refine ⟨⟨i + 1, by go_num, by omega, Lib.hid ?_, XB⟩, by simp [intOf]; omega⟩
      rw [HST.out]
      exact HPF.out
   ·obtain rfl : i = m := by omega
    have hp := HG.out
    rw [List.take_of_length_le (by rw [HM.out]; exact Nat.le_refl _)] at hp
    have hbody : P0 ++ bytesN (t.fe.flatMap enVecs) = bodyT t := by
     rw [<- HP0.out]
     have e : enEmits t.fe = (t.fe.length : Int) :: t.fe.flatMap enVecs := rfl
     unfold bodyT enT
     rw [e, HM.out]
     simp only [bytesN_app, bytesN_cons, List.append_assoc, List.nil_append]
    rw [hbody] at hp
    have HPF := Lib.hid hp
    have hbw := HPF.out.base (BRow.nil _ _) HB1.out
    have HBW := Lib.hid hbw
    obtain ⟨A3, k3, e3, hk1, hk2⟩ := HPF.out.o.slice
    subst e3
    have HOL : Hid (∀ n q, (Value.slice A3 n k3).ownBlock = some q -> w.heap.size <= q) := Lib.hid (fun n q hq => (HPF.out.o.lt q (by cases A3 <;> exact hq)).1)
    have HBY := Lib.hid (HPF.out.o.bytes (bodyT_byte t))
    have HC := Lib.hid (rnum_any HPF.out.o hbw.size (x := sumI (bodyT t)) (by have := sumI_in (bodyT t); unfold Int64; omega) (by unfold bodyT; rw [bytesN_len, enT_parts]; have := HLN.out; omega))
    obtain ⟨n3, hn3⟩ : ∃ n, (bodyT t).length = n := ⟨_, rfl⟩
    rw [hn3] at hk1 HBY HC
    have HS : Hid (bodyT t ++ be8 (sumI (bodyT t)) = saveT t) := Lib.hid rfl
    rw [hn3]
    obtain ⟨y, hy⟩ : ∃ y, sumI (bodyT t) = y := ⟨_, rfl⟩
    rw [hy] at HC HS
    have HY := Lib.hid hy
    clear hp hbody hbw hn3 HG hy hlt
    go_wp2_with fail
    refine (rsum_any HBY.out).mono ?_
    rintro e w5 ⟨rfl, rfl⟩
    rw [HY.out]
    go_wp2_with fail
    refine HC.out.mono ?_
    rintro e w6 ⟨u6', rfl, hg⟩
    rw [HS.out] at hg
    have HG6 := Lib.hid hg
    have HB6 := Lib.hid (HBW.out.trans (hg.low (HBW.out.size) (fun q hq => HOL.out _ q hq)))
    clear hg HC
    go_wp2_with fail
    go_ret
    exact ⟨_, rfl, HG6.out.o, HB6.out⟩
end Go.Proofs.Ytjkcglgkdclidaa
