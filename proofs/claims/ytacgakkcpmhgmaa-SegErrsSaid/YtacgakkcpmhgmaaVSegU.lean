/- The reference's Segment, plain. The reference's Segment, of tables that may be, of texts that are not too long. -/
import Derived.Test.YtacgakkcpmhgmaaVSegS
import Derived.Test.YtacgakkcpmhgmaaVTableTp
import Derived.Test.YtacgakkcpmhgmaaVLL
set_option linter.unusedVariables false
set_option linter.unusedSimpArgs false
set_option maxRecDepth 100000
set_option maxHeartbeats 8000000
namespace Go.Proofs.Ytacgakkcpmhgmaa
open Go Go.RowKit Go.Proofs
def natsL (l : List Int) : List Nat := l.map Int.toNat
def natsT (T : List (List Int)) : List (List Nat) := T.map natsL
theorem intsN_nats {l : List Int} (h : ∀ x ∈ l, 0 <= x) : intsN (natsL l) = l := by
 unfold intsN natsL
 rw [List.map_map]
 conv => rhs; rw [<- List.map_id l]
 apply List.map_congr_left
 intro x hx
 have := h x hx
 simp only [Function.comp, id]
 show ((x.toNat : Nat) : Int) = x
 omega
theorem natsL_len (l : List Int) : (natsL l).length = l.length := by simp [natsL]
theorem natsL_at (l : List Int) (i : Nat) : (natsL l).getD i 0 = (l.getD i 0).toNat := by
 simp only [natsL, List.getD_eq_getElem?_getD, List.getElem?_map]
 cases l[i]? <;> rfl
theorem natsT_len (T : List (List Int)) : (natsT T).length = T.length := by simp [natsT]
theorem natsT_at (T : List (List Int)) (i : Nat) : (natsT T).getD i [] = natsL (T.getD i []) := by
 simp only [natsT, List.getD_eq_getElem?_getD, List.getElem?_map]
 cases T[i]? <;> rfl
theorem trN_nx {T : List (List Int)} (s a : Nat) : trN (natsT T) s a = (nxI T (s : Int) (a : Int)).toNat := by
 unfold trN nxI
 rw [natsT_at, natsL_at, Int.toNat_natCast, Int.toNat_natCast]
theorem lead_rect {T : List (List Int)} {k : Nat} (h : LeadI T k) : RectN (natsT T) k where
 pos := by rw [natsT_len]; exact h.1
 len := fun s hs => by
  rw [natsT_len] at hs
  rw [natsT_at, natsL_len]
  have := lead_row h (s := (s : Int)) (by omega) (by omega)
  rwa [Int.toNat_natCast] at this
 lt := fun s a hs ha => by
  rw [natsT_len] at hs ⊢
  rw [trN_nx]
  have := lead_nx h (s := (s : Int)) (a := (a : Int)) (by omega) (by omega) (by omega) (by omega)
  omega
theorem rowsI_next {w : World} {v : Value} {T : List (List Int)} (h : RowsI w v T) (hp : ∀ r ∈ T, ∀ x ∈ r, 0 <= x) : NextR w v (natsT T) := by
 obtain ⟨a, cap, h1, h2, h3, h4, h5⟩ := h
 refine ⟨a, cap, by rw [natsT_len]; exact h1, by rw [natsT_len]; exact h2, h3, h4, fun i hi => ?_⟩
 rw [natsT_len] at hi
 obtain ⟨b, off, u, e1, e2, e3⟩ := h5 i hi
 refine ⟨b, off, u, e1, e2, ?_⟩
 rw [natsT_at, natsL_len, intsN_nats (hp _ (getD_memL hi))]
 exact e3
theorem fwd_fwdI {T : List (List Int)} {k : Nat} {t : List Int} (h : LeadI T k) (ht : ∀ a ∈ t, 0 <= a /\ a < (k : Int)) : ∀ i, i <= t.length -> fwdI T t i = ((fwdS (natsT T) (natsL t) i : Nat) : Int)
 | 0, _ => by
   rw [fwdI_zero]
   rfl
 | i + 1, hi => by
   have ih := fwd_fwdI h ht i (by omega)
   have hi1 : i < t.length := by omega
   have ha := ht _ (getD_memL (d := 0) hi1)
   rw [fwdI_step T hi1, fwdS_step (natsT T) (t := natsL t) (i := i) (by rw [natsL_len]; exact hi1), trN_nx, natsL_at, <- ih, Int.toNat_of_nonneg ha.1]
   have hs := fwdI_in h ht i
   have := lead_nx h hs.1 hs.2 ha.1 ha.2
   omega
theorem back_bakI {T : List (List Int)} {k : Nat} {t : List Int} (h : LeadI T k) (ht : ∀ a ∈ t, 0 <= a /\ a < (k : Int)) : ∀ d i, i + d = t.length -> bakI T t i = ((backS (natsT T) (natsL t) i : Nat) : Int)
 | 0, i, hi => by
   obtain rfl : i = t.length := by omega
   rw [bakI_end, backS_end (natsT T) (t := natsL t) (m := t.length) (natsL_len t)]
   rfl
 | d + 1, i, hi => by
   have hi1 : i < t.length := by omega
   have ih := back_bakI h ht d (i + 1) (by omega)
   have ha := ht _ (getD_memL (d := 0) hi1)
   rw [bakI_step T hi1, backS_step (natsT T) (t := natsL t) (j := i) (by rw [natsL_len]; exact hi1), trN_nx, natsL_at, <- ih, Int.toNat_of_nonneg ha.1]
   have hs := bakI_in h ht (i + 1)
   have := lead_nx h hs.1 hs.2 ha.1 ha.2
   omega
theorem brunL_outs {t : Tab} {l : List Int} (h : RightT t) (ht : TextI t l) : brunL (natsT t.bn) (natsL t.bo) (natsL l) = outsI_ t l := by
 unfold brunL outsI_ rowZ
 rw [natsL_len]
 apply List.map_congr_left
 intro i hi
 have hi1 := List.mem_range.1 hi
 have hb := back_bakI h.back ht (l.length - i) i (by omega)
 have ho := outI_in h ht i
 unfold outI at ho ⊢
 rw [hb, Int.toNat_natCast] at ho ⊢
 rw [natsL_at]
 omega
theorem frunL_seg {t : Tab} {l : List Int} (h : RightT t) (ht : TextI t l) : frunL (natsT t.fn) t.fe (natsL l) (natsL (outsI_ t l)) (l.length + 1) = segL t l := by
 unfold frunL segL
 apply List.map_congr_left
 intro i hi
 have hi1 := List.mem_range.1 hi
 have hf := fwd_fwdI h.fwd ht i (by omega)
 unfold frunV segV
 rw [natsL_at, outsI_at_ t (by omega), hf, Int.toNat_natCast]
 rfl
theorem natsL_lt {l : List Int} {k : Nat} (h : ∀ a ∈ l, 0 <= a /\ a < (k : Int)) : ∀ a ∈ natsL l, a < k := fun a ha => by
 obtain ⟨x, hx, rfl⟩ := List.mem_map.1 ha
 have := h x hx
 omega
end Go.Proofs.Ytacgakkcpmhgmaa
namespace Go.Proofs.Ytacgakkcpmhgmaa
open Go Go.RowKit Go.Proofs
theorem swp_concatI {w : World} {o : Oper} {a : Act} {K : Act -> World -> Prop} {Q : Exit -> Act -> World -> Prop} (hgd : o.guard = none) (s x : Operand)
  (ho : o.op = .call { callee := .builtin .append, args := #[s, x], argTypes := #[22, 22] })
  (B : Nat) (v : Value) (n : Nat) (l : List Int) (hs : a.eval s = v) (hown : Own w B v n l)
  (u : Value) (m : Nat) (l' : List Int) (hx : a.eval x = u) (hu : ReadsI w u m l') (hnm : n + m <= 1000000000) (hB : B <= w.heap.size)
  (h : ∀ v' w', Own w' B v' (n + m) (l ++ l') -> Below B w w' -> w.grownBy w' v.ownBlock -> (v'.ownBlock = v.ownBlock \/ v'.ownBlock = some w.heap.size) -> K (a.put o.dst v') w') : Oper.wp Try.prog o a w K Q := by
  obtain ⟨v', w', hr, h2, h3, h4, h5⟩ := run_concatI o.type hown hu hnm hB
  unfold Oper.wp execOp
  simp only [ho, resolve, invoke, builtin, Sem.run_bind, Sem.run_pure, Result.andThen_ok, List.map_toArray, List.map_cons, List.map_nil, hs, hx, hr]
  exact h v' w' h2 h3 h4 h5
theorem segT_size {t : Tab} {s : ByteArray} {N : Nat} (h : (scs s.data.toList).length = N) : (segT t s).length = N + 1 := by
 unfold segT
 rw [segL_len, textI_len, h]
theorem Own.drew' {w w' : World} {B n : Nat} {v : Value} {l : List Int} (h : Own w B v n l) (e : w.drew = w') : Own w' B v n l := by subst e; exact h.drew
def RSegF (w : World) (l : List V3) (e : Ending) (w' : World) : Prop := ∃ A c, e = .returned (.tuple #[.slice A l.length c, .int .i64 0]) /\ ReadsE encV 3 w' (.slice A l.length c) l.length l /\ (∀ p, A = some p -> w.heap.size <= p.block) /\ Below w.heap.size w w'
def RSegO (w : World) (l : List V3) (e : Ending) (w' : World) : Prop := ∃ A c, e = .returned (.tuple #[.slice A l.length c, .int .i64 0]) /\ ReadsE encV 3 w' (.slice A l.length c) l.length l /\ Below w.heap.size w w'
theorem rsegment_fresh {w : World} {vc vl vbn vbo vfn vfe : Value} {t : Tab} (ht : TabR w vc vl vbn vbo vfn vfe t) (hT : RightT t) (s : ByteArray) (hs : s.size <= 4000) :
  Calls Try.prog 19 #[tabV vc vl vbn vbo vfn vfe, .string s] w (RSegF w (segT t s)) := by
  obtain ⟨A0, k0, e0, p0, q0, -⟩ := ht.c.form
  subst e0
  obtain ⟨A1, k1, e1, p1, q1, -⟩ := ht.l.form
  subst e1
  obtain ⟨A2, k2, e2, p2, q2⟩ := ht.bn.form
  subst e2
  obtain ⟨A3, k3, e3, p3, q3, -⟩ := ht.bo.form
  subst e3
  obtain ⟨A4, k4, e4, p4, q4⟩ := ht.fn.form
  subst e4
  obtain ⟨A5, k5, e5, p5, q5⟩ := ht.fe.form
  subst e5
  obtain ⟨n0, hn0⟩ : ∃ n, t.cuts.length = n := ⟨_, rfl⟩
  obtain ⟨n1, hn1⟩ : ∃ n, t.letters.length = n := ⟨_, rfl⟩
  obtain ⟨n2, hn2⟩ : ∃ n, t.bn.length = n := ⟨_, rfl⟩
  have hn3 : t.bo.length = n2 := by rw [hT.outs.1]; exact hn2
  obtain ⟨n4, hn4⟩ : ∃ n, t.fn.length = n := ⟨_, rfl⟩
  have hn5 : t.fe.length = n4 := by rw [hT.emits.1]; exact hn4
  have r0 := ht.c; have r1 := ht.l; have r2 := ht.bn; have r3 := ht.bo; have r4 := ht.fn; have r5 := ht.fe
  rw [hn0] at r0 p0
  rw [hn1] at r1 p1
  rw [hn2] at r2 p2
  rw [hn3] at r3 p3
  rw [hn4] at r4 p4
  rw [hn5] at r5 p5
  rw [hn0, hn1, hn2, hn3, hn4, hn5]
  obtain ⟨B, hB⟩ : ∃ B, w.heap.size = B := ⟨_, rfl⟩
  obtain ⟨W0, hW0⟩ : ∃ W, w.alloc (.cells #[.slice A0 n0 k0, .slice A1 n1 k1, .slice A2 n2 k2, .slice A3 n2 k3, .slice A4 n4 k4, .slice A5 n4 k5] 32) = W := ⟨_, rfl⟩
  have hx0 : Blk W0 B 32 #[.slice A0 n0 k0, .slice A1 n1 k1, .slice A2 n2 k2, .slice A3 n2 k3, .slice A4 n4 k4, .slice A5 n4 k5] := by rw [<- hW0]; exact sblk_new _ hB _ _
  have hb0 : Below w.heap.size w W0 := by rw [<- hW0]; exact (Below.refl _ _).alloc (Nat.le_refl _) _
  have htc : TabR w (.slice A0 n0 k0) (.slice A1 n1 k1) (.slice A2 n2 k2) (.slice A3 n2 k3) (.slice A4 n4 k4) (.slice A5 n4 k5) t := ⟨by rw [hn0]; exact r0, by rw [hn1]; exact r1, r2, by rw [hn3]; exact r3, r4, r5⟩
  have hcall := rright_any (htc.below hb0) (by have := hT.lets; have := hT.len.2; omega)
  have hdecl := fun (W : World) => refdecode_any s W (by omega)
  have hscin := scs_in s.data.toList
  have hlen := scs_length_le s.data.toList
  have hsz : s.data.toList.length = s.size := rfl
  rw [hsz] at hlen
  have hsg : segT t s = segL t (textI t (scs s.data.toList)) := rfl
  obtain ⟨sc, hsce⟩ : ∃ l, scs s.data.toList = l := ⟨_, rfl⟩
  obtain ⟨N, hN⟩ : ∃ N, sc.length = N := ⟨_, rfl⟩
  rw [hsce] at hlen hscin hsg
  rw [hN] at hlen
  obtain ⟨S9, hS9⟩ : ∃ n, s.size = n := ⟨_, rfl⟩
  rw [hS9] at hs hlen
  have HW0 := Lib.hid hW0; have HX0 := Lib.hid hx0; have HB0 := Lib.hid hb0; have HN := Lib.hid hN; have HB := Lib.hid hB; have HTAB := Lib.hid htc; have HCALL := Lib.hid hcall; have HRT := Lib.hid hT; have HDEC := Lib.hid hdecl; have HSCE := Lib.hid hsce; have HSC := Lib.hid hscin; have HSG := Lib.hid hsg
  have HN0 := Lib.hid hn0; have HR0 := Lib.hid r0
  have HN1 := Lib.hid hn1; have HR1 := Lib.hid r1
  have HN2 := Lib.hid hn2; have HR2 := Lib.hid r2
  have HN3 := Lib.hid hn3; have HR3 := Lib.hid r3
  have HN4 := Lib.hid hn4; have HR4 := Lib.hid r4
  have HN5 := Lib.hid hn5; have HR5 := Lib.hid r5
  clear ht htc hT hW0 hx0 hb0 hN hB hcall hdecl hsce hscin hsg hsz hn0 r0 hn1 r1 hn2 r2 hn3 r3 hn4 r4 hn5 r5
  go_enter Try.func19, Try.ntmps19
  unfold tabV
  go_wp2_with fail
  rw [HW0.out]
  simp only [HB.out]
  have HX := HX0
  have c0 := HX.out.cell 0
  have c1 := HX.out.cell 1
  have c2 := HX.out.cell 2
  have c3 := HX.out.cell 3
  have c4 := HX.out.cell 4
  have c5 := HX.out.cell 5
  simp only [List.getElem?_toArray, List.getElem?_cons_zero, List.getElem?_cons_succ] at c0 c1 c2 c3 c4 c5
  go_wp2_with fail
  refine HCALL.out.mono ?_
  intro e w1 hro
  unfold RrO at hro
  obtain ⟨r, rfl, hbr, hb1⟩ := hro
  have hr1 := hbr.2 HRT.out
  subst hr1
  replace HX := Lib.hid (Blk.below HX.out hb1 HX.out.lt)
  have HBW := Lib.hid (HB0.out.trans (hb1.mono HB0.out.size))
  clear hbr hb1 HCALL HX0 HB0 HW0
  clear c0 c1 c2 c3 c4 c5
  have l1 : ¬ (4000 : Int) < (S9 : Int) := by omega
  go_wp2_with fail
  refine (HDEC.out _).mono ?_
  intro e w2 hd
  unfold DecTells at hd
  obtain ⟨v, u, rfl, hv, -, -, hb2⟩ := hd
  rw [HSCE.out, HN.out] at hv
  have hr := hv.readsI
  obtain ⟨A, cap, rfl, v1, v2, v3⟩ := hr.form
  replace HX := Lib.hid (Blk.below HX.out hb2 HX.out.lt)
  replace HBW := Lib.hid (HBW.out.trans (hb2.mono HBW.out.size))
  have HRS := Lib.hid hr; have HSL := Lib.hid v3
  clear hv hr hb2 v3 HDEC
  go_wp2_with fail
  obtain ⟨W1, hW1⟩ : ∃ W, W = w2 := ⟨_, rfl⟩
  subst hW1
  go_loopw [8, 9] (fun v vi wr => ∃ i : Nat, vi = .int .i64 (i : Int) /\ i <= N /\ Hid (Own wr W1.heap.size v i ((sc.take i).map (lettI t))) /\ Hid (Below W1.heap.size W1 wr)) (fun _ vi _ => N - (intOf vi).toNat)
  case atStart => exact ⟨0, rfl, Nat.zero_le _, Lib.hid (Own.nil _ _), Lib.hid (Below.refl _ _)⟩
  case round =>
   obtain ⟨i, rfl, hi, HO, HBL⟩ := hrel
   have i0 : (0 : Int) <= (i : Int) := Int.natCast_nonneg _
   by_cases hlt : i < N
   ·have i1 : (i : Int) < (N : Int) := by omega
    obtain ⟨g, o, ea, hgl, hcl⟩ := HRS.out.at i hlt
    subst ea
    have hxm := HSC.out _ (getD_memL (d := 0) (i := i) (by rw [HSL.out]; exact hlt))
    have htk : (sc.take (i + 1)).map (lettI t) = (sc.take i).map (lettI t) ++ [lettI t (sc.getD i 0)] := by
     rw [List.take_add_one, List.getElem?_eq_getElem (by rw [HSL.out]; exact hlt), List.getD_eq_getElem?_getD, List.getElem?_eq_getElem (by rw [HSL.out]; exact hlt), List.map_append]; rfl
    obtain ⟨x, hx⟩ : ∃ x, sc.getD i 0 = x := ⟨_, rfl⟩
    rw [hx] at hcl hxm htk
    obtain ⟨y, hy⟩ : ∃ y, lettI t x = y := ⟨_, rfl⟩
    rw [hy] at htk
    obtain ⟨D0, hD0⟩ : ∃ D, wr.drew = D := ⟨_, rfl⟩
    have hbd : Below W1.heap.size W1 D0 := by rw [<- hD0]; exact HBL.out.drew
    have hod := HO.out.drew' hD0
    have hx0 := Blk.below HX.out hbd HX.out.lt
    have hgx := bel_m hbd hcl
    have HKS : Hid (∀ W, Below W1.heap.size W1 W -> (fun W : World => W.cell? ⟨B, 0, none⟩ = some (.slice A0 n0 k0) /\ W.cell? ⟨B, 1, none⟩ = some (.slice A1 n1 k1) /\ W.cell? ⟨g, o + i, none⟩ = some (.int .i64 x)) W) := Lib.hid (fun W hW => by have h := Blk.below HX.out hW HX.out.lt; exact ⟨h.cell 0, h.cell 1, bel_m hW hcl⟩)
    have hS := HKS.out _ hbd
    clear hx0 hgx hcl
    go_wp2_with fail
    refine region_x 12 (fun W : World => W.cell? ⟨B, 0, none⟩ = some (.slice A0 n0 k0) /\ W.cell? ⟨B, 1, none⟩ = some (.slice A1 n1 k1) /\ W.cell? ⟨g, o + i, none⟩ = some (.int .i64 x)) (by kernel_rfl) ?_
    rw [hD0]
    refine tkx (i := 0) (v := ?_) hS ?_ ?_
    rotate_left
    ·rintro w' ⟨s0, s1, s2⟩
     go_simp
     try with_reducible rfl
    try simp only [Act.put, zq1, zq2, zq3, zq4, zq5, zq6]
    refine tkx (i := 1) (v := ?_) hS ?_ ?_
    rotate_left
    ·rintro w' ⟨s0, s1, s2⟩
     go_simp
     try with_reducible rfl
    try simp only [Act.put, zq1, zq2, zq3, zq4, zq5, zq6]
    refine tkx (i := 2) (v := ?_) hS ?_ ?_
    rotate_left
    ·rintro w' ⟨s0, s1, s2⟩
     go_simp
     try with_reducible rfl
    try simp only [Act.put, zq1, zq2, zq3, zq4, zq5, zq6]
    refine tkx (i := 3) (v := ?_) hS ?_ ?_
    rotate_left
    ·rintro w' ⟨s0, s1, s2⟩
     go_simp
     try with_reducible rfl
    try simp only [Act.put, zq1, zq2, zq3, zq4, zq5, zq6]
    refine tkx (i := 4) (v := ?_) hS ?_ ?_
    rotate_left
    ·rintro w' ⟨s0, s1, s2⟩
     go_simp
     try with_reducible rfl
    try simp only [Act.put, zq1, zq2, zq3, zq4, zq5, zq6]
    refine tkx (i := 5) (v := ?_) hS ?_ ?_
    rotate_left
    ·rintro w' ⟨s0, s1, s2⟩
     go_simp
     try with_reducible rfl
    try simp only [Act.put, zq1, zq2, zq3, zq4, zq5, zq6]
    refine tkx (i := 6) (v := ?_) hS ?_ ?_
    rotate_left
    ·rintro w' ⟨s0, s1, s2⟩
     go_simp
     try with_reducible rfl
    try simp only [Act.put, zq1, zq2, zq3, zq4, zq5, zq6]
    refine tkx (i := 7) (v := ?_) hS ?_ ?_
    rotate_left
    ·rintro w' ⟨s0, s1, s2⟩
     go_simp
     try with_reducible rfl
    try simp only [Act.put, zq1, zq2, zq3, zq4, zq5, zq6]
    refine tkx (i := 8) (v := ?_) hS ?_ ?_
    rotate_left
    ·rintro w' ⟨s0, s1, s2⟩
     go_simp
     try with_reducible rfl
    try simp only [Act.put, zq1, zq2, zq3, zq4, zq5, zq6]
    refine anyX_g (i := 9) (by kernel_rfl) (by decide) rfl (by rfl) ?_
    intro K hK
    try simp only [zq1, zq2, zq3]
    refine wp_enterE #[.slice A0 n0 k0, .slice A1 n1 k1, .int .i64 x] Try.func41 (by kernel_rfl) (by kernel_rfl) ?_ (srlet_tab (T := t) (by rw [HN0.out]; exact HR0.out.below (HBW.out.trans (hbd.mono HBW.out.size))) (by rw [HN1.out]; exact HR1.out.below (HBW.out.trans (hbd.mono HBW.out.size))) HRT.out hxm.1 hxm.2) ?_
    ·go_simp
    rintro e w' ⟨rfl, hw⟩
    subst hw
    rw [hy]
    refine ⟨_, rfl, ?_⟩
    refine hK _ _ hS ?_
    clear hK
    try simp only [Act.put, zq1, zq2, zq3, zq4, zq5, zq6]
    refine anyX_g (i := 10) (by kernel_rfl) (by decide) rfl (by rfl) ?_
    intro K hK
    try simp only [zq1, zq2, zq3]
    obtain ⟨b9, hb9⟩ : ∃ b, D0.heap.size = b := ⟨_, rfl⟩
    obtain ⟨D1, eV⟩ : ∃ W', D0.alloc (.cells #[.int .i64 y] 3) = W' := ⟨_, rfl⟩
    go_simp
    try simp only [hb9]
    try rw [eV]
    have hb : Below D0.heap.size D0 D1 := by rw [<- eV]; exact (Below.refl _ _).alloc (Nat.le_refl _) _
    have X9 : Blk D1 b9 3 #[.int .i64 y] := by rw [<- eV]; exact Blk.newAt _ hb9 _ _
    clear eV hb9
    have hod := hod.below_top hb
    replace hbd := hbd.trans (hb.mono hbd.size)
    clear hb hS
    have hS := HKS.out _ hbd
    refine hK _ _ hS ?_
    clear hK
    try simp only [Act.put, zq1, zq2, zq3, zq4, zq5, zq6]
    refine anyX_g (i := 11) (by kernel_rfl) (by decide) rfl (by rfl) ?_
    intro K hK
    try simp only [zq1, zq2, zq3]
    refine swp_concatI rfl (.tmp 27) (.tmp 37) rfl W1.heap.size _ i _ (by rfl) hod (.slice (some ⟨b9, 0, none⟩) 1 1) 1 [y] (by rfl) (readsI_cell1 (X9.cell 0)) (by omega) hbd.size ?_
    intro v' D2 hov hbn hgr hob
    clear hS
    replace hbd := hbd.trans hbn
    have hS := HKS.out _ hbd
    refine hK _ _ hS ?_
    clear hK
    try simp only [Act.put, zq1, zq2, zq3, zq4, zq5, zq6]
    refine anyX_last (by kernel_rfl) (by kernel_rfl) rfl rfl ?_
    try simp only [zq1, zq2, zq3]
    go_simp
    try apply_assumption
    have HO2 : Hid (Own D2 W1.heap.size v' (i + 1) ((sc.take (i + 1)).map (lettI t))) := Lib.hid (by rw [htk]; exact hov)
    have HBL2 := Lib.hid hbd
    clear hS hov hod hbd hbn hgr hob X9 htk
    go_wp2_with fail
    first | exact ⟨⟨i + 1, by go_num, by omega, HO2⟩, by simp [intOf]; omega⟩ | exact ⟨⟨i + 1, by go_num, by omega, HO2, HBL2⟩, by simp [intOf]; omega⟩ | exact ⟨⟨i + 1, by go_num, by omega⟩, by simp [intOf]; omega⟩
   ·obtain rfl : i = N := by omega
    have htx : (sc.take i).map (lettI t) = textI t sc := by rw [List.take_of_length_le (by rw [HSL.out]; exact Nat.le_refl _)]; rfl
    have hro := HO.out.readsI
    rw [htx] at hro
    obtain ⟨TA, tc, et, t1, t2, t3⟩ := hro.form
    subst et
    have hti : TextI t (textI t sc) := textI_in HRT.out (fun x hx => (HSC.out x hx).1)
    obtain ⟨D0, hD0⟩ : ∃ D, wr.drew = D := ⟨_, rfl⟩
    have hbd : Below W1.heap.size W1 D0 := by rw [<- hD0]; exact HBL.out.drew
    have hrd : ReadsI D0 (.slice TA i tc) i (textI t sc) := by rw [<- hD0]; exact hro
    have HKS : Hid (∀ W, Below W1.heap.size W1 W -> (fun W : World => W.cell? ⟨B, 2, none⟩ = some (.slice A2 n2 k2) /\ W.cell? ⟨B, 3, none⟩ = some (.slice A3 n2 k3) /\ W.cell? ⟨B, 4, none⟩ = some (.slice A4 n4 k4) /\ W.cell? ⟨B, 5, none⟩ = some (.slice A5 n4 k5)) W) := Lib.hid (fun W hW => by have h := Blk.below HX.out hW HX.out.lt; exact ⟨h.cell 2, h.cell 3, h.cell 4, h.cell 5⟩)
    have hS := HKS.out _ hbd
    have HTX := Lib.hid hti; have HRD := Lib.hid hrd; have HTL := Lib.hid t3
    clear htx hro hti hrd HO t3
    go_wp2_with fail
    refine region_x 9 (fun W : World => W.cell? ⟨B, 2, none⟩ = some (.slice A2 n2 k2) /\ W.cell? ⟨B, 3, none⟩ = some (.slice A3 n2 k3) /\ W.cell? ⟨B, 4, none⟩ = some (.slice A4 n4 k4) /\ W.cell? ⟨B, 5, none⟩ = some (.slice A5 n4 k5)) (by kernel_rfl) ?_
    rw [hD0]
    refine tkx (i := 0) (v := ?_) hS ?_ ?_
    rotate_left
    ·rintro w' ⟨s2, s3, s4, s5⟩
     go_simp
     try with_reducible rfl
    try simp only [Act.put, zq1, zq2, zq3, zq4, zq5, zq6]
    refine tkx (i := 1) (v := ?_) hS ?_ ?_
    rotate_left
    ·rintro w' ⟨s2, s3, s4, s5⟩
     go_simp
     try with_reducible rfl
    try simp only [Act.put, zq1, zq2, zq3, zq4, zq5, zq6]
    refine tkx (i := 2) (v := ?_) hS ?_ ?_
    rotate_left
    ·rintro w' ⟨s2, s3, s4, s5⟩
     go_simp
     try with_reducible rfl
    try simp only [Act.put, zq1, zq2, zq3, zq4, zq5, zq6]
    refine tkx (i := 3) (v := ?_) hS ?_ ?_
    rotate_left
    ·rintro w' ⟨s2, s3, s4, s5⟩
     go_simp
     try with_reducible rfl
    try simp only [Act.put, zq1, zq2, zq3, zq4, zq5, zq6]
    refine tkx (i := 4) (v := ?_) hS ?_ ?_
    rotate_left
    ·rintro w' ⟨s2, s3, s4, s5⟩
     go_simp
     try with_reducible rfl
    try simp only [Act.put, zq1, zq2, zq3, zq4, zq5, zq6]
    refine tkx (i := 5) (v := ?_) hS ?_ ?_
    rotate_left
    ·rintro w' ⟨s2, s3, s4, s5⟩
     go_simp
     try with_reducible rfl
    try simp only [Act.put, zq1, zq2, zq3, zq4, zq5, zq6]
    refine anyX_g (i := 6) (by kernel_rfl) (by decide) rfl (by rfl) ?_
    intro K hK
    try simp only [zq1, zq2, zq3]
    have hR := HRT.out
    have hbw : Below w.heap.size w D0 := HBW.out.trans (hbd.mono HBW.out.size)
    have r3' : ReadsI D0 (.slice A3 n2 k3) n2 t.bo := HR3.out.below hbw
    have hbk := rbrun_any (T := natsT t.bn) (O := natsL t.bo) (t := natsL (textI t sc)) (k := cntL t.letters) (rowsI_next (HR2.out.below hbw) (fun r hr x hx => ((hR.back.2.2 r hr).2 x hx).1)) (by rw [natsT_len]; exact HN2.out) (lead_rect hR.back) (by rw [intsN_nats (fun x hx => (hR.outs.2 x hx).1)]; exact r3') (by rw [intsN_nats (fun x hx => (HTX.out x hx).1)]; exact HRD.out) (natsL_lt HTX.out) (by omega)
    rw [brunL_outs hR HTX.out] at hbk
    clear r3' hR
    refine wp_enterE #[.agg #[.slice A2 n2 k2, .slice A3 n2 k3], .slice TA i tc] Try.func49 (by kernel_rfl) (by kernel_rfl) ?_ hbk ?_
    ·go_simp
    rintro e D1 ⟨g1, rfl, ho1, hb⟩
    clear hbk
    have HP := Lib.hid ho1.readsI
    replace HRD := Lib.hid (HRD.out.below hb)
    replace hbd := hbd.trans (hb.mono hbd.size)
    clear hb hbw ho1 hS
    have hS := HKS.out _ hbd
    refine ⟨_, rfl, ?_⟩
    refine hK _ _ hS ?_
    clear hK
    try simp only [Act.put, zq1, zq2, zq3, zq4, zq5, zq6]
    refine anyX_g (i := 7) (by kernel_rfl) (by decide) rfl (by rfl) ?_
    intro K hK
    try simp only [zq1, zq2, zq3]
    have hR := HRT.out
    have hbw : Below w.heap.size w D1 := HBW.out.trans (hbd.mono HBW.out.size)
    have r5' : EmitR D1 (.slice A5 n4 k5) t.fe := HR5.out.below hbw
    have hoin : ∀ a ∈ outsI_ t (textI t sc), 0 <= a /\ a < ((maxL t.bo + 1).toNat : Int) := fun a ha => by
     obtain ⟨j, -, rfl⟩ := List.mem_map.1 ha
     have := outI_in hR HTX.out j
     omega
    have hfk := rfrun_fresh (T := natsT t.fn) (E := t.fe) (t := natsL (textI t sc)) (p := natsL (outsI_ t (textI t sc))) (k := cntL t.letters) (q := (maxL t.bo + 1).toNat) (rowsI_next (HR4.out.below hbw) (fun r hr x hx => ((hR.fwd.2.2 r hr).2 x hx).1)) (by rw [natsT_len]; exact HN4.out) (lead_rect hR.fwd) r5' HN5.out (fun j hj => by have := (hR.emits.2 _ (getD_memL (d := []) (i := j) (by rw [HN5.out]; exact hj))).1; omega) (by rw [intsN_nats (fun x hx => (HTX.out x hx).1)]; exact HRD.out) (natsL_lt HTX.out) (by rw [intsN_nats (fun x hx => (hoin x hx).1)]; exact HP.out) (natsL_lt hoin) (Nat.le_refl _) (by omega)
    have hfs := frunL_seg hR HTX.out
    rw [HTL.out] at hfs
    rw [hfs] at hfk
    clear r5' hoin hfs hR
    refine wp_enterE #[.agg #[.slice A4 n4 k4, .slice A5 n4 k5], .slice TA i tc, .slice (some ⟨g1, 0, none⟩) (i + 1) (i + 1)] Try.func48 (by kernel_rfl) (by kernel_rfl) ?_ hfk ?_
    ·go_simp
    rintro e D2 ⟨RA, rc, rfl, hrr, hfa, hb⟩
    clear hfk
    have HRR := Lib.hid hrr
    have HFA : Hid (∀ p, RA = some p -> w.heap.size <= p.block) := Lib.hid (fun p hp => Nat.le_trans hbw.size (hfa p hp))
    replace hbd := hbd.trans (hb.mono hbd.size)
    clear hb hbw hrr hfa hS
    have hS := HKS.out _ hbd
    refine ⟨_, rfl, ?_⟩
    refine hK _ _ hS ?_
    clear hK
    try simp only [Act.put, zq1, zq2, zq3, zq4, zq5, zq6]
    refine tkx (i := 8) (v := ?_) hS ?_ ?_
    rotate_left
    ·rintro w' ⟨s2, s3, s4, s5⟩
     go_simp
     try with_reducible rfl
    try simp only [Act.put, zq1, zq2, zq3, zq4, zq5, zq6]
    refine anyX_last (by kernel_rfl) (by kernel_rfl) rfl rfl ?_
    try simp only [zq1, zq2, zq3]
    go_simp
    try apply_assumption
    clear hS
    go_wp2_with fail
    refine bodyPost_ret (v := .tuple #[.slice RA (i + 1) rc, .int .i64 0]) (by simp [results, Try.results19, go_sem]) rfl ?_
    unfold RSegF
    refine ⟨RA, rc, by rw [segT_size (by rw [HSCE.out, HN.out])], by rw [HSG.out]; have := segL_len t (textI t sc); rw [HTL.out] at this; rw [this]; exact HRR.out, HFA.out, HBW.out.trans (hbd.mono HBW.out.size)⟩
theorem rsegment_any {w : World} {vc vl vbn vbo vfn vfe : Value} {t : Tab} (ht : TabR w vc vl vbn vbo vfn vfe t) (hT : RightT t) (s : ByteArray) (hs : s.size <= 4000) :
  Calls Try.prog 19 #[tabV vc vl vbn vbo vfn vfe, .string s] w (RSegO w (segT t s)) := by
  refine (rsegment_fresh ht hT s hs).mono ?_
  rintro e w' ⟨A, c, h1, h2, -, h3⟩
  exact ⟨A, c, h1, h2, h3⟩
end Go.Proofs.Ytacgakkcpmhgmaa
