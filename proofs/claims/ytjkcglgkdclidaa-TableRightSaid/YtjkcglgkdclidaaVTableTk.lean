/- The reference's reader: nums. The reference's reader: rows. The reference's reader: vecs. -/
import Derived.Test.YtjkcglgkdclidaaVTableTg
set_option linter.unusedVariables false
set_option linter.unusedSimpArgs false
set_option maxRecDepth 100000
set_option maxHeartbeats 4000000
namespace Go.Proofs.Ytjkcglgkdclidaa
open Go Go.RowKit Go.Proofs
theorem rdOut_num {rest : Option (List Int)} {x : Int} (h : rest ≠ none -> x = (takeN rest).1) : RdOut rdOne rest x (takeN rest).2 := by
 refine ⟨fun e => by rw [e]; rfl, fun L e => ?_⟩
 have h1 := h (by rw [e]; exact fun h => by cases h)
 subst e
 cases L with
 | nil => exact ⟨(fun y L' e => by cases e), fun _ => rfl⟩
 | cons a L => exact ⟨(fun y L' e => by cases e; exact ⟨h1, rfl⟩), fun e => by cases e⟩
theorem rnumsR_any {w : World} {b c S : Nat} {rest : Option (List Int)} (h : RSt w b c S rest) (hS : S <= w.heap.size) :
  Calls Try.prog 41 #[.pointer (some ⟨b, 0, none⟩)] w fun e w' => ∃ v l r, e = .returned v /\ Own w' w.heap.size v l.length l /\ l.length <= 100000 /\ RdOut (rdC (some 100000) rdOne) rest l r /\ RSt w' b c S r /\ Fr (fun q => q = b) w w' := by
  have HR := Lib.hid h
  have hblt := h.lb
  clear h
  go_enter Try.func41, Try.ntmps41
  go_wp2_with fail
  refine (rcountR_any HR.out).mono ?_
  rintro e V0 ⟨k, rfl, hk1, hk2, hs, hf⟩
  have HK := Lib.hid hk2
  have hsz := hf.size
  have HST : Hid (∃ l, Own V0 w.heap.size (.slice none 0 0) l.length l /\ l.length = 0 /\ RdInv rdOne k (manyR rest).2 0 l (manyR rest).2 /\ RSt V0 b c S (manyR rest).2 /\ Fr (fun q => q = b) w V0) := Lib.hid ⟨[], Own.nil _ _, rfl, RdInv.start _ _, hs, hf⟩
  clear hk2 hs hf
  go_wp2_with fail
  go_loopw [3, 5] (fun u vi wr => ∃ i : Nat, vi = .int .i64 (i : Int) /\ i <= k /\ Hid (∃ l r, Own wr w.heap.size u l.length l /\ l.length = i /\ RdInv rdOne k (manyR rest).2 i l r /\ RSt wr b c S r /\ Fr (fun q => q = b) w wr)) (fun _ vi _ => k - (intOf vi).toNat)
  case atStart =>
   obtain ⟨l, a1, a2, a3, a4, a5⟩ := HST.out
   exact ⟨0, rfl, Nat.zero_le _, Lib.hid ⟨l, _, a1, a2, a3, a4, a5⟩⟩
  case round =>
   clear HST
   obtain ⟨i, rfl, hi, HI⟩ := hrel
   have i0 : (0 : Int) <= (i : Int) := Int.natCast_nonneg _
   obtain ⟨l, r, hO, hl, hinv, hst, hfr⟩ := HI.out
   obtain ⟨A, cap, bs, bad, h1, h2, h3⟩ := id hst
   have c0 := h1.x.cell 0; have c1 := h1.x.cell 1
   simp only [List.getElem?_toArray, List.getElem?_cons_zero, List.getElem?_cons_succ] at c0 c1
   have HO := Lib.hid hO; have HINV := Lib.hid hinv; have HS := Lib.hid hst; have HF := Lib.hid hfr; have HL := Lib.hid hl
   have h2' := Lib.hid h2; have h3' := Lib.hid h3
   clear hO hinv hst hfr h1 h2 h3 hl HI
   by_cases hlt : i < k
   ·have i1 : (i : Int) < (k : Int) := by omega
    cases bad with
    | true =>
      go_wp2_with fail
      go_ret
      have hn : r = none := by
       cases r with
       | none => rfl
       | some L => have := (h3'.out L rfl).1; cases this
      exact ⟨_, rfl, l, HO.out, by rw [HL.out]; omega, r, rdOut_of HK.out HINV.out (.inr hn), HS.out, HF.out⟩
    | false =>
      cases r with
      | none => have := h2'.out rfl; cases this
      | some L1 =>
        go_wp2_with fail
        refine (rtakeR_any HS.out).mono ?_
        rintro e w1 ⟨x, rfl, -, hx, hs, hf⟩
        have hO1 : Own w1 w.heap.size u3 l.length l := hf.own HO.out (fun k hk e => by have h1 := (HO.out.lt k hk).1; have e' : k = b := e; omega)
        have HO1 := Lib.hid hO1
        have HINV1 := Lib.hid (HINV.out.step hlt (rdOut_num hx))
        have HS1 := Lib.hid hs; have HF1 := Lib.hid (HF.out.trans hf)
        have hln : l.length <= 1000000000 := by rw [HL.out]; omega
        have hbs : w.heap.size <= w1.heap.size := HF1.out.size
        clear hO1 hx hs hf c0 c1
        go_wp2_with (at_builtin; refine wpList_push rfl (.tmp 20) (.tmp 23) rfl w.heap.size w1 u3 l.length l x (by rfl) HO1.out (by rfl) hln hbs ?_; intro g9 cap9 w9 hp9; have HP := Lib.hid hp9; clear hp9)
        refine ⟨⟨i + 1, by go_num, by omega, Lib.hid ⟨l ++ [x], _, by rw [List.length_append]; exact HP.out.own, by rw [List.length_append, HL.out]; rfl, HINV1.out, HS1.out.low (HP.out.below (Below.refl _ _) hS (Nat.le_trans hS hbs)), ?_⟩⟩, by simp [intOf]; omega⟩
        exact HF1.out.then_ (Fr.of_pushed HP.out) (fun q hq e => by have h1 := (HO1.out.lt q e).1; omega)
   ·obtain rfl : k = i := by omega
    go_wp2_with fail
    go_ret
    exact ⟨_, l, r, rfl, HO.out, by rw [HL.out]; omega, rdOut_of HK.out HINV.out (.inl rfl), HS.out, HF.out⟩
end Go.Proofs.Ytjkcglgkdclidaa
namespace Go.Proofs.Ytjkcglgkdclidaa
open Go Go.RowKit Go.Proofs
def xssI (T : List (List Int)) : List (Nat × List Value) := T.map fun l => (l.length, l.map (Value.int .i64))
theorem xssI_snoc (T : List (List Int)) (l : List Int) : xssI (T ++ [l]) = xssI T ++ [(l.length, l.map (Value.int .i64))] := by simp [xssI]
theorem rrowsR_any {w : World} {b c S : Nat} {rest : Option (List Int)} (h : RSt w b c S rest) (hS : S <= w.heap.size) :
  Calls Try.prog 42 #[.pointer (some ⟨b, 0, none⟩)] w fun e w' => ∃ v l r, e = .returned v /\ OwnLL w' w.heap.size 22 3 1 v l.length (xssI l) /\ l.length <= 100000 /\ RdOut (rdC (some 100000) (rdC (some 100000) rdOne)) rest l r /\ RSt w' b c S r /\ Fr (fun q => q = b) w w' := by
  have HR := Lib.hid h
  have hblt := h.lb
  clear h
  go_enter Try.func42, Try.ntmps42
  go_wp2_with fail
  refine (rcountR_any HR.out).mono ?_
  rintro e V0 ⟨k, rfl, hk1, hk2, hs, hf⟩
  have HK := Lib.hid hk2
  have hsz := hf.size
  have HST : Hid (∃ l, OwnLL V0 w.heap.size 22 3 1 (.slice none 0 0) l.length (xssI l) /\ l.length = 0 /\ RdInv (rdC (some 100000) rdOne) k (manyR rest).2 0 l (manyR rest).2 /\ RSt V0 b c S (manyR rest).2 /\ Fr (fun q => q = b) w V0) := Lib.hid ⟨[], OwnLL.nil _ _ _ _ _, rfl, RdInv.start _ _, hs, hf⟩
  clear hk2 hs hf
  go_wp2_with fail
  go_loopw [3, 5] (fun u vi wr => ∃ i : Nat, vi = .int .i64 (i : Int) /\ i <= k /\ Hid (∃ l r, OwnLL wr w.heap.size 22 3 1 u l.length (xssI l) /\ l.length = i /\ RdInv (rdC (some 100000) rdOne) k (manyR rest).2 i l r /\ RSt wr b c S r /\ Fr (fun q => q = b) w wr)) (fun _ vi _ => k - (intOf vi).toNat)
  case atStart =>
   obtain ⟨l, a1, a2, a3, a4, a5⟩ := HST.out
   exact ⟨0, rfl, Nat.zero_le _, Lib.hid ⟨l, _, a1, a2, a3, a4, a5⟩⟩
  case round =>
   clear HST
   obtain ⟨i, rfl, hi, HI⟩ := hrel
   have i0 : (0 : Int) <= (i : Int) := Int.natCast_nonneg _
   obtain ⟨l, r, hO, hl, hinv, hst, hfr⟩ := HI.out
   obtain ⟨A, cap, bs, bad, h1, h2, h3⟩ := id hst
   have c0 := h1.x.cell 0; have c1 := h1.x.cell 1
   simp only [List.getElem?_toArray, List.getElem?_cons_zero, List.getElem?_cons_succ] at c0 c1
   have HO := Lib.hid hO; have HINV := Lib.hid hinv; have HS := Lib.hid hst; have HF := Lib.hid hfr; have HL := Lib.hid hl
   have h2' := Lib.hid h2; have h3' := Lib.hid h3
   clear hO hinv hst hfr h1 h2 h3 hl HI
   by_cases hlt : i < k
   ·have i1 : (i : Int) < (k : Int) := by omega
    cases bad with
    | true =>
      go_wp2_with fail
      go_ret
      have hn : r = none := by
       cases r with
       | none => rfl
       | some L => have := (h3'.out L rfl).1; cases this
      exact ⟨_, rfl, l, HO.out, by rw [HL.out]; omega, r, rdOut_of HK.out HINV.out (.inr hn), HS.out, HF.out⟩
    | false =>
      cases r with
      | none => have := h2'.out rfl; cases this
      | some L1 =>
        go_wp2_with fail
        have hss : S <= wr.heap.size := Nat.le_trans hS HF.out.size
        refine (rnumsR_any HS.out hss).mono ?_
        rintro e w1 ⟨v1, l1, r1, rfl, ho, hl1, hx, hs, hf⟩
        obtain ⟨A8, c8, e8, -, -, -⟩ := ho.readsI.form
        subst e8
        have hO1 : OwnLL w1 w.heap.size 22 3 1 u3 l.length (xssI l) := HO.out.fr' hf (fun q hq e => by have e' : q = b := e; omega)
        have hap : Apart u3 (.slice A8 l1.length c8) := by
         unfold Apart
         cases hq : u3.ownBlock with
         | none => exact .inl rfl
         | some g =>
           refine .inr (.inr (fun e => ?_))
           have h1 := (HO.out.lt g hq).2
           have h2 := (ho.lt g e.symm).1
           omega
        have hov : Own w1 w.heap.size (.slice A8 l1.length c8) l1.length l1 := ho.more HF.out.size
        have HO1 := Lib.hid hO1; have HAP := Lib.hid hap
        have HOV : Hid (w1.ownsRow w.heap.size 3 1 (.slice A8 l1.length c8) l1.length (l1.map (Value.int .i64))) := Lib.hid hov
        have HINV1 := Lib.hid (HINV.out.step hlt hx)
        have HS1 := Lib.hid hs; have HF1 := Lib.hid (HF.out.trans hf)
        have hln : l.length <= 1000000000 := by rw [HL.out]; omega
        have hbs : w.heap.size <= w1.heap.size := HF1.out.size
        clear hO1 hx hs hf c0 c1 hap hov ho hl1 hss
        go_wp2_with (at_builtin; refine wpList_pushLL rfl (.tmp 20) (.tmp 23) 24 22 3 1 24 rfl Try.underlying24 info_row (by omega) w.heap.size w1 u3 l.length (xssI l) (.slice A8 l1.length c8) _ _ (by rfl) HO1.out HOV.out HAP.out (by rfl) hln hbs ?_; intro g9 cap9 w9 hp9; have HP := Lib.hid hp9; clear hp9)
        refine ⟨⟨i + 1, by go_num, by omega, Lib.hid ⟨l ++ [l1], _, by rw [xssI_snoc, List.length_append]; exact HP.out.own, by rw [List.length_append, HL.out]; rfl, HINV1.out, HS1.out.low (HP.out.below (Below.refl _ _) hS (Nat.le_trans hS hbs)), ?_⟩⟩, by simp [intOf]; omega⟩
        exact HF1.out.then_ (Fr.of_grown HP.out.grow (fun k e => e)) (fun q hq e => by have h1 := (HO1.out.lt q e).1; omega)
   ·obtain rfl : k = i := by omega
    go_wp2_with fail
    go_ret
    exact ⟨_, l, r, rfl, HO.out, by rw [HL.out]; omega, rdOut_of HK.out HINV.out (.inl rfl), HS.out, HF.out⟩
end Go.Proofs.Ytjkcglgkdclidaa
namespace Go.Proofs.Ytjkcglgkdclidaa
open Go Go.RowKit Go.Proofs
def takeK : Nat -> Option (List Int) -> Option (List Int)
 | 0, r => r
 | j + 1, r => (takeN (takeK j r)).2
def VecAt3 (L : List Int) (j : Nat) (x y z : Int) (r : Option (List Int)) : Prop :=
 r = takeK j (some L) /\ (0 < j -> takeK 0 (some L) ≠ none -> x = (takeN (takeK 0 (some L))).1) /\ (1 < j -> takeK 1 (some L) ≠ none -> y = (takeN (takeK 1 (some L))).1) /\ (2 < j -> takeK 2 (some L) ≠ none -> z = (takeN (takeK 2 (some L))).1)
theorem VecAt3.step {L : List Int} {j : Nat} {x y z q : Int} {r : Option (List Int)} (h : VecAt3 L j x y z r) (hj : j < 3) (hq : r ≠ none -> q = (takeN r).1) :
  VecAt3 L (j + 1) (if j = 0 then q else x) (if j = 1 then q else y) (if j = 2 then q else z) (takeN r).2 := by
  obtain ⟨rfl, h1, h2, h3⟩ := h
  rcases (show j = 0 \/ j = 1 \/ j = 2 by omega) with rfl | rfl | rfl
  ·exact ⟨rfl, fun _ => hq, fun e => absurd e (by omega), fun e => absurd e (by omega)⟩
  ·exact ⟨rfl, fun _ => h1 (by omega), fun _ => hq, fun e => absurd e (by omega)⟩
  ·exact ⟨rfl, fun _ => h1 (by omega), fun _ => h2 (by omega), fun _ => hq⟩
theorem VecAt3.out {L : List Int} {x y z : Int} {r : Option (List Int)} (h : VecAt3 L 3 x y z r) : RdOut rdVec (some L) (x, y, z) r := by
 obtain ⟨rfl, h1, h2, h3⟩ := h
 refine ⟨fun e => (by cases e), fun L9 e => ?_⟩
 cases e
 match L with
 | [] => exact ⟨(fun y L' e => by cases e), fun _ => rfl⟩
 | [a] => exact ⟨(fun y L' e => by cases e), fun _ => rfl⟩
 | [a, b] => exact ⟨(fun y L' e => by cases e), fun _ => rfl⟩
 | a :: b :: c :: t =>
   have e1 := h1 (by omega) (by simp [takeK]); have e2 := h2 (by omega) (by simp [takeK, takeN]); have e3 := h3 (by omega) (by simp [takeK, takeN])
   simp only [takeK, takeN] at e1 e2 e3
   subst e1 e2 e3
   exact ⟨(fun y L' e => by cases e; exact ⟨rfl, rfl⟩), fun e => by cases e⟩
theorem rvecsR_any {w : World} {b c S : Nat} {rest : Option (List Int)} (h : RSt w b c S rest) (hS : S <= w.heap.size) :
  Calls Try.prog 44 #[.pointer (some ⟨b, 0, none⟩)] w fun e w' => ∃ v l r, e = .returned v /\ OwnE encV 45 3 w' w.heap.size v l.length l /\ l.length <= 100000 /\ RdOut (rdC (some 100000) rdVec) rest l r /\ RSt w' b c S r /\ Fr (fun q => q = b) w w' := by
  have HR := Lib.hid h
  have hblt := h.lb
  clear h
  go_enter Try.func44, Try.ntmps44
  go_wp2_with fail
  refine (rcountR_any HR.out).mono ?_
  rintro e V0 ⟨k, rfl, hk1, hk2, hs, hf⟩
  have HK := Lib.hid hk2
  have hsz := hf.size
  have HST : Hid (∃ l, OwnE encV 45 3 V0 w.heap.size (.slice none 0 0) l.length l /\ l.length = 0 /\ RdInv rdVec k (manyR rest).2 0 l (manyR rest).2 /\ RSt V0 b c S (manyR rest).2 /\ Fr (fun q => q = b) w V0) := Lib.hid ⟨[], OwnE.nil _ _, rfl, RdInv.start _ _, hs, hf⟩
  clear hk2 hs hf
  go_wp2_with fail
  go_loopw [3, 5] (fun u vi wr => ∃ i : Nat, vi = .int .i64 (i : Int) /\ i <= k /\ Hid (∃ l r, OwnE encV 45 3 wr w.heap.size u l.length l /\ l.length = i /\ RdInv rdVec k (manyR rest).2 i l r /\ RSt wr b c S r /\ Fr (fun q => q = b) w wr)) (fun _ vi _ => k - (intOf vi).toNat)
  case atStart =>
   obtain ⟨l, a1, a2, a3, a4, a5⟩ := HST.out
   exact ⟨0, rfl, Nat.zero_le _, Lib.hid ⟨l, _, a1, a2, a3, a4, a5⟩⟩
  case round =>
   clear HST
   obtain ⟨i, rfl, hi, HI⟩ := hrel
   have i0 : (0 : Int) <= (i : Int) := Int.natCast_nonneg _
   obtain ⟨l, r, hO, hl, hinv, hst, hfr⟩ := HI.out
   obtain ⟨A, cap, bs, bad, h1, h2, h3⟩ := id hst
   have c0 := h1.x.cell 0; have c1 := h1.x.cell 1
   simp only [List.getElem?_toArray, List.getElem?_cons_zero, List.getElem?_cons_succ] at c0 c1
   have HO := Lib.hid hO; have HINV := Lib.hid hinv; have HS := Lib.hid hst; have HF := Lib.hid hfr; have HL := Lib.hid hl
   have h2' := Lib.hid h2; have h3' := Lib.hid h3
   clear hO hinv hst hfr h1 h2 h3 hl HI
   by_cases hlt : i < k
   ·have i1 : (i : Int) < (k : Int) := by omega
    cases bad with
    | true =>
      go_wp2_with fail
      go_ret
      have hn : r = none := by
       cases r with
       | none => rfl
       | some L => have := (h3'.out L rfl).1; cases this
      exact ⟨_, rfl, l, HO.out, by rw [HL.out]; omega, r, rdOut_of HK.out HINV.out (.inr hn), HS.out, HF.out⟩
    | false =>
      cases r with
      | none => have := h2'.out rfl; cases this
      | some L1 =>
        go_wp2_with fail
        clear c0 c1
        obtain ⟨bv, hbv⟩ : ∃ q, wr.heap.size = q := ⟨_, rfl⟩
        obtain ⟨W0, hW0⟩ : ∃ W, wr.alloc (.cells #[.int .i64 0, .int .i64 0, .int .i64 0] 45) = W := ⟨_, rfl⟩
        have hxb : Blk W0 bv 45 #[.int .i64 0, .int .i64 0, .int .i64 0] := by rw [<- hW0]; exact Blk.newAt _ hbv _ _
        have hb0 : Below wr.heap.size wr W0 := by rw [<- hW0]; exact (Below.refl _ _).alloc (Nat.le_refl _) _
        have hsw : w.heap.size <= wr.heap.size := HF.out.size
        have hOw : OwnE encV 45 3 W0 w.heap.size u3 l.length l := OwnE.below_top HO.out hb0
        have hlt3 : ∀ k, u3.ownBlock = some k -> w.heap.size <= k /\ k < bv := fun k hk => by rw [<- hbv]; exact OwnE.lt HO.out k hk
        have HLT3 := Lib.hid hlt3
        have hbvb : S <= bv := by omega
        have HST2 : Hid (∃ x y z r, Blk W0 bv 45 #[.int .i64 x, .int .i64 y, .int .i64 z] /\ VecAt3 L1 0 x y z r /\ RSt W0 b c S r /\ OwnE encV 45 3 W0 w.heap.size u3 l.length l /\ Fr (fun q => q = b) w W0) := Lib.hid ⟨0, 0, 0, some L1, hxb, ⟨rfl, fun h => absurd h (Nat.not_lt_zero _), fun h => absurd h (Nat.not_lt_zero _), fun h => absurd h (Nat.not_lt_zero _)⟩, HS.out.below hb0, hOw, HF.out.then_ (Fr.of_below (X := fun _ => False) hb0) (fun _ _ e => e.elim)⟩
        have HW0 := Lib.hid hW0; have HBV := Lib.hid hbv
        clear hxb hb0 hOw hlt3 hW0
        go_wp2_with fail
        rw [HW0.out]
        try simp only [HBV.out]
        clear HW0
        go_loopw [7] (fun vj wr => ∃ j : Nat, vj = .int .i64 (j : Int) /\ j <= 3 /\ Hid (∃ x y z r, Blk wr bv 45 #[.int .i64 x, .int .i64 y, .int .i64 z] /\ VecAt3 L1 j x y z r /\ RSt wr b c S r /\ OwnE encV 45 3 wr w.heap.size u3 l.length l /\ Fr (fun q => q = b) w wr)) (fun vj _ => 3 - (intOf vj).toNat)
        case atStart => exact ⟨0, rfl, Nat.zero_le _, HST2⟩
        case round =>
         clear HST2
         obtain ⟨j, rfl, hj, HJ⟩ := hrel
         have j0 : (0 : Int) <= (j : Int) := Int.natCast_nonneg _
         obtain ⟨x, y, z, r, hX, hV, hS2, hO2, hF2⟩ := HJ.out
         have HX := Lib.hid hX; have HV := Lib.hid hV; have HS2 := Lib.hid hS2; have HO2 := Lib.hid hO2; have HF2 := Lib.hid hF2
         clear hX hV hS2 hO2 hF2 HJ
         by_cases hj3 : j < 3
         ·have j1 : (j : Int) < 3 := by omega
          go_wp2_with fail
          refine (rtakeR_any HS2.out).mono ?_
          rintro e w1 ⟨q, rfl, -, hq, hs, hf⟩
          have hX1 : Blk w1 bv 45 #[.int .i64 x, .int .i64 y, .int .i64 z] := hf.blk HX.out (fun e => by have e' : bv = b := e; omega)
          have hO1 : OwnE encV 45 3 w1 w.heap.size u3 l.length l := hf.rows HO2.out (fun g hg e => by have h1 := (HLT3.out g hg).1; have e' : g = b := e; omega)
          have HV1 := Lib.hid (HV.out.step hj3 hq)
          have HS3 := Lib.hid hs; have HF3 := Lib.hid (HF2.out.trans hf); have HX1 := Lib.hid hX1; have HO1 := Lib.hid hO1
          clear hX1 hO1 hs hf hq
          have c0 := HX1.out.cell 0; have c1 := HX1.out.cell 1; have c2 := HX1.out.cell 2
          have f0 := HX1.out.frozen 0; have f1 := HX1.out.frozen 1; have f2 := HX1.out.frozen 2
          simp only [List.getElem?_toArray, List.getElem?_cons_zero, List.getElem?_cons_succ] at c0 c1 c2
          have hnb : ∀ g, u3.ownBlock = some g -> g ≠ bv := fun g hg e => by have := (HLT3.out g hg).2; omega
          have HNB := Lib.hid hnb
          clear hnb
          rcases (show j = 0 \/ j = 1 \/ j = 2 by omega) with rfl | rfl | rfl
          all_goals (
           clear hj3 j0 j1 hj
           go_wp2_with fail
           refine ⟨⟨_, by go_num, by decide, Lib.hid ?_⟩, by simp [intOf]⟩)
          ·exact ⟨_, _, _, _, by simpa using HX1.out.set_ 0 (.int .i64 q), HV1.out, HS3.out.low ((Below.refl S w1).setCell (p := ⟨bv, 0, none⟩) hbvb _), OwnE.same HO1.out (fun g hg => Below.heap_setCell w1 ⟨bv, 0, none⟩ _ g (HNB.out g hg)), HF3.out.set_ (p := ⟨bv, 0, none⟩) (.inr (by show w.heap.size <= bv; omega)) _⟩
          ·exact ⟨_, _, _, _, by simpa using HX1.out.set_ 1 (.int .i64 q), HV1.out, HS3.out.low ((Below.refl S w1).setCell (p := ⟨bv, 1, none⟩) hbvb _), OwnE.same HO1.out (fun g hg => Below.heap_setCell w1 ⟨bv, 1, none⟩ _ g (HNB.out g hg)), HF3.out.set_ (p := ⟨bv, 1, none⟩) (.inr (by show w.heap.size <= bv; omega)) _⟩
          ·exact ⟨_, _, _, _, by simpa using HX1.out.set_ 2 (.int .i64 q), HV1.out, HS3.out.low ((Below.refl S w1).setCell (p := ⟨bv, 2, none⟩) hbvb _), OwnE.same HO1.out (fun g hg => Below.heap_setCell w1 ⟨bv, 2, none⟩ _ g (HNB.out g hg)), HF3.out.set_ (p := ⟨bv, 2, none⟩) (.inr (by show w.heap.size <= bv; omega)) _⟩
         ·obtain rfl : j = 3 := by omega
          have HINV1 := Lib.hid (HINV.out.step hlt HV.out.out)
          have c0 := HX.out.cell 0; have c1 := HX.out.cell 1; have c2 := HX.out.cell 2
          simp only [List.getElem?_toArray, List.getElem?_cons_zero, List.getElem?_cons_succ] at c0 c1 c2
          have hln : l.length <= 1000000000 := by rw [HL.out]; omega
          have hbs : w.heap.size <= wr.heap.size := HF2.out.size
          go_wp2_with (at_builtin; refine wpList_pushE (enc := encV) rfl (.tmp 30) (.tmp 32) 46 rfl 24 _ Try.underlying46 info_vec rfl (by omega) (by omega) w.heap.size wr u3 l.length l (x, y, z) _ rfl rfl (by simp [encV, Value.oneCell']) (by rfl) HO2.out wr.heap.size (by rfl) rfl hln hbs ?_; intro g9 cap9 w9 hp9; have HP := Lib.hid hp9; clear hp9)
          refine ⟨⟨i + 1, by go_num, by omega, Lib.hid ⟨l ++ [(x, y, z)], _, by rw [List.length_append]; exact HP.out.own, by rw [List.length_append, HL.out]; rfl, HINV1.out, HS2.out.low ((Below.refl S wr).grown HP.out.grow (Nat.le_trans hS hbs) (fun k hk => Nat.le_trans hS (HLT3.out k hk).1)), ?_⟩⟩, by simp [intOf]; omega⟩
          exact HF2.out.then_ (Fr.of_grown HP.out.grow (fun k e => e)) (fun q hq e => by have h1 := (HLT3.out q e).1; omega)
   ·obtain rfl : k = i := by omega
    go_wp2_with fail
    go_ret
    exact ⟨_, l, r, rfl, HO.out, by rw [HL.out]; omega, rdOut_of HK.out HINV.out (.inl rfl), HS.out, HF.out⟩
end Go.Proofs.Ytjkcglgkdclidaa
