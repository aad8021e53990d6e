/- parts.split. -/
import Derived.Test.YtdcokkgdahbinaaVMiniG
set_option linter.unusedVariables false
set_option linter.unusedSimpArgs false
set_option maxRecDepth 100000
set_option maxHeartbeats 8000000
namespace Go.Proofs.Ytdcokkgdahbinaa
open Go Go.RowKit Go.Proofs
theorem GoodN.congrM {N c : Nat} {A P f fr to mk : Nat -> Nat} {M M' : Nat -> Prop} {L : List Nat} (h : GoodN N A P f fr to mk c M L) (hM : ∀ x, x < N -> (M x ↔ M' x)) : GoodN N A P f fr to mk c M' L :=
 ⟨h.lt, h.pa, h.ap, h.span, h.mem, fun x hx => (hM x hx).symm.trans (h.mark x hx), h.touch, h.nodup⟩
theorem PtAt.from_ {w : World} {B : Nat} {L : Lay} {N c : Nat} {A P f fr to mk : Nat -> Nat} {Tl : List Nat} (h : PtAt w B L N A P f fr to mk c Tl) (q v : Nat) : PtAt (w.setCell ⟨L.gs, q * 3, none⟩ (.int .i64 (v : Int))) B L N A P f (updN fr q v) to mk c Tl := h.spanSet _ _ (rowS_fr c fr to mk q v)
theorem PtAt.to_ {w : World} {B : Nat} {L : Lay} {N c : Nat} {A P f fr to mk : Nat -> Nat} {Tl : List Nat} (h : PtAt w B L N A P f fr to mk c Tl) (q v : Nat) : PtAt (w.setCell ⟨L.gs, q * 3 + 1, none⟩ (.int .i64 (v : Int))) B L N A P f fr (updN to q v) mk c Tl := h.spanSet _ _ (rowS_to c fr to mk q v)
structure SpAt (w : World) (B : Nat) (L : Lay) (N : Nat) (A P f : Nat -> Nat) (c0 : Nat) (M : Nat -> Prop) (Tl : List Nat) (i : Nat) (wr : World) (gs cs : Nat) (f' fr to mk : Nat -> Nat) (c : Nat) : Prop where
 pt : PtAt wr B ({ L with gs := gs, cs := cs } : Lay) N A P f' fr to mk c Tl
 good : GoodN N A P f' fr to mk c (fun x => M x /\ f x ∉ Tl.take i) (Tl.drop i)
 split : SplitAt N f c0 M (Tl.take i) f' c
 same : ∀ x, x < N -> f x ∉ Tl.take i -> f' x = f x
 fr_ : Fr L.has w wr
 gs_ : gs = L.gs \/ w.heap.size <= gs
section
variable {w wr w' : World} {B : Nat} {L : Lay} {N c0 c i gs cs q : Nat} {A P f f' fr to mk : Nat -> Nat} {M : Nat -> Prop} {Tl : List Nat}
theorem take_q (hi : i < Tl.length) (hq : Tl[i] = q) : Tl.take (i + 1) = Tl.take i ++ [q] := by rw [List.take_succ_eq_append_getElem hi, hq]
theorem drop_q (hi : i < Tl.length) (hq : Tl[i] = q) : Tl.drop i = q :: Tl.drop (i + 1) := by rw [List.drop_eq_getElem_cons hi, hq]
theorem fresh_q (hnd : Tl.Nodup) (hi : i < Tl.length) (hq : Tl[i] = q) : q ∉ Tl.take i := by
 intro h
 obtain ⟨j, hj, ej⟩ := List.getElem_of_mem h
 have hj' : j < i := by have := hj; simp at this; omega
 rw [List.getElem_take] at ej
 exact (List.pairwise_iff_getElem.1 hnd j i (by omega) hi hj') (by rw [ej, hq])
theorem marks_q (hi : i < Tl.length) (hq : Tl[i] = q) (hs : ∀ x, x < N -> f x ∉ Tl.take i -> f' x = f x) (x : Nat) (hx : x < N) : ((M x /\ f x ∉ Tl.take i) /\ f' x ≠ q) ↔ (M x /\ f x ∉ Tl.take (i + 1)) := by
 rw [take_q hi hq, List.mem_append, List.mem_singleton, not_or]
 constructor
 ·rintro ⟨⟨h1, h2⟩, h3⟩
  exact ⟨h1, h2, fun e => h3 (by rw [hs x hx h2]; exact e)⟩
 ·rintro ⟨h1, h2, h3⟩
  exact ⟨⟨h1, h2⟩, fun e => h3 (by rw [<- hs x hx h2]; exact e)⟩
theorem SpAt.whole (h : SpAt w B L N A P f c0 M Tl i wr gs cs f' fr to mk c) (hi : i < Tl.length) (hq : Tl[i] = q) (hw : fr q + mk q = to q) (hpt : PtAt w' B ({ L with gs := gs, cs := cs } : Lay) N A P f' fr to (updN mk q 0) c Tl) (hf : Fr L.has w w') (hqc : q < c0) (hnd : Tl.Nodup) :
  SpAt w B L N A P f c0 M Tl (i + 1) w' gs cs f' fr to (updN mk q 0) c := by
  have hfr := fresh_q hnd hi hq
  have hg := h.good
  rw [drop_q hi hq] at hg
  have hqc' : q < c := (hg.touch q).1 (List.mem_cons_self ..) |>.1
  refine ⟨hpt, (hg.whole hw).congrM (fun x hx => marks_q hi hq h.same x hx), ?_, fun x hx hn => h.same x hx (fun e => hn (by rw [take_q hi hq]; exact List.mem_append_left _ e)), hf, h.gs_⟩
  rw [take_q hi hq]
  refine h.split.whole (fun x hx e => ?_)
  have e1 : f' x = q := by rw [h.same x hx (by rw [e]; exact hfr), e]
  have := h.good.place hx
  rw [e1] at this
  exact ((h.good.mark x hx).2 (by rw [e1]; omega)).1
theorem SpAt.part (h : SpAt w B L N A P f c0 M Tl i wr gs cs f' fr to mk c) (hi : i < Tl.length) (hq : Tl[i] = q) {a b gs' cs' : Nat} {fr' to' : Nat -> Nat}
  (hcut : (a = fr q /\ b = fr q + mk q /\ fr' = updN (updN fr q b) c a /\ to' = updN to c b) \/ (a = fr q + mk q /\ b = to q /\ fr' = updN fr c a /\ to' = updN (updN to q a) c b)) (hw : fr q + mk q ≠ to q)
  (hpt : PtAt w' B ({ L with gs := gs', cs := cs' } : Lay) N A P (fun x => if a <= P x /\ P x < b then c else f' x) fr' to' (updN (updN mk q 0) c 0) (c + 1) Tl) (hf : Fr L.has w w') (hgs : gs' = L.gs \/ w.heap.size <= gs') (hqc : q < c0) (hnd : Tl.Nodup) :
  SpAt w B L N A P f c0 M Tl (i + 1) w' gs' cs' (fun x => if a <= P x /\ P x < b then c else f' x) fr' to' (updN (updN mk q 0) c 0) (c + 1) := by
  have hfr := fresh_q hnd hi hq
  have hg := h.good
  rw [drop_q hi hq] at hg
  have hqc' : q < c := (hg.touch q).1 (List.mem_cons_self ..) |>.1
  obtain ⟨s1, s2, s3⟩ := hg.span q hqc'
  have hin : ∀ x, x < N -> a <= P x /\ P x < b -> f' x = q := fun x hx hX => (hg.mem x q hx hqc').2 (by rcases hcut with ⟨e1, e2, _⟩ | ⟨e1, e2, _⟩ <;> omega)
  refine ⟨hpt, (hg.part hcut hw).congrM (fun x hx => marks_q hi hq h.same x hx), ?_, fun x hx hn => ?_, hf, hgs⟩
  ·rw [take_q hi hq]
   refine h.split.part (X := fun x => a <= P x /\ P x < b) hg.lt hqc hfr ?_ hin
   have hpl : ∀ x, x < N -> f x = q -> fr q <= P x /\ P x < to q /\ (M x ↔ P x < fr q + mk q) := fun x hx e => by
    have e0 : f x ∉ Tl.take i := by rw [e]; exact hfr
    have e1 : f' x = q := by rw [h.same x hx e0, e]
    have hp := hg.place hx
    have hm := hg.mark x hx
    rw [e1] at hp hm
    exact ⟨hp.1, hp.2, ⟨fun m => hm.1 ⟨m, e0⟩, fun r => (hm.2 r).1⟩⟩
   rcases hcut with ⟨e1, e2, _⟩ | ⟨e1, e2, _⟩
   ·left
    intro x hx e
    obtain ⟨p1, p2, p3⟩ := hpl x hx e
    rw [p3]; omega
   ·right
    intro x hx e
    obtain ⟨p1, p2, p3⟩ := hpl x hx e
    rw [p3]; omega
  ·rw [take_q hi hq] at hn
   have h1 : f x ∉ Tl.take i := fun e => hn (List.mem_append_left _ e)
   have h2 : f x ≠ q := fun e => hn (by rw [e]; simp)
   have e1 := h.same x hx h1
   show (if a <= P x /\ P x < b then c else f' x) = f x
   rw [if_neg (fun hX => h2 (by rw [<- e1]; exact hin x hx hX)), e1]
end
theorem own_front0 {w : World} {B n c : Nat} {A : Option Addr} {l : List Int} (h : Own w B (.slice A n c) n l) : Own w B (.slice A 0 c) 0 [] := by
 rcases h.2 with ⟨e, h0⟩ | ⟨g, cap, cur, e, hg, hh, h1, h2, h3, _⟩
 ·simp only [Value.slice.injEq] at e
  obtain ⟨rfl, -, rfl⟩ := e
  exact Own.nil _ _
 ·simp only [Value.slice.injEq, true_and] at e
  obtain ⟨rfl, rfl⟩ := e
  exact ⟨rfl, .inr ⟨g, c, cur, rfl, hg, hh, Nat.zero_le _, h2, h3, by simp⟩⟩
theorem split_any {w : World} {B : Nat} {L : Lay} {N c : Nat} {A P f fr to mk : Nat -> Nat} {Tl : List Nat} {M : Nat -> Prop} (h : PtAt w B L N A P f fr to mk c Tl) (hG : GoodN N A P f fr to mk c M Tl) (hN : N <= 1000) (hBw : B <= w.heap.size) :
  Calls Try.prog 63 #[.pointer (some ⟨L.b, 0, none⟩)] w fun e w' => e = .returned (.tuple #[]) /\ ∃ L' f' fr' to' mk' c', L'.b = L.b /\ PtAt w' B L' N A P f' fr' to' mk' c' [] /\ GoodN N A P f' fr' to' mk' c' (fun _ => False) [] /\ SplitN N f c M f' c' /\ Fr L.has w w' /\ (∀ k, k < w.heap.size -> L'.has k -> L.has k) := by
  have hN6 : N <= 1000000 := by omega
  obtain ⟨TA, tc, htv, htc, htc2, -⟩ := h.touch.readsI.form
  have htl := h.tn
  have hI0 : SpAt w B L N A P f c M Tl 0 w L.gs L.cs f fr to mk c := ⟨h, by simpa using hG, SplitAt.zero _ _ _ _, fun _ _ _ => rfl, Fr.refl _ _, .inl rfl⟩
  have hndT := hG.nodup
  have htcN : ∀ q ∈ Tl, q < c := fun q hq => ((hG.touch q).1 hq).1
  have htm : ∀ x, x < N -> M x -> f x ∈ Tl := fun x hx hm => (hG.touch _).2 ⟨hG.lt x hx, by have h1 := (hG.mark x hx).1 hm; have h2 := (hG.place hx).1; omega⟩
  have hcN := hG.count_le
  have htn : L.tn <= 1000 := by have := nodup_len hndT htcN; omega
  have b4 := h.box.cell 4
  simp only [List.getElem?_toArray, List.getElem?_cons_zero, List.getElem?_cons_succ] at b4
  rw [htv] at b4
  have HTV := Lib.hid htv; have HTL := Lib.hid htl; have HI0 := Lib.hid hI0; have HND := Lib.hid hndT; have HTC := Lib.hid htcN; have HTM := Lib.hid htm
  have HLOW := Lib.hid h.low; have HOK := Lib.hid h.ok
  obtain ⟨tn, htn'⟩ : ∃ tn, L.tn = tn := ⟨_, rfl⟩
  rw [htn'] at b4 htn
  have HTN := Lib.hid htn'
  clear h hG htv htl hI0 hndT htcN htm htc htn'
  go_enter Try.func63, Try.ntmps63
  go_wp2_with fail
  go_loopw [13] (fun vi wr => ∃ i gs cs : Nat, ∃ (f' fr to mk : Nat -> Nat) (c' : Nat), vi = .int .i64 (i : Int) /\ i <= tn /\ Hid (SpAt w B L N A P f c M Tl i wr gs cs f' fr to mk c')) (fun i _ => tn - (intOf i).toNat)
  case atStart => exact ⟨0, _, _, _, _, _, _, _, rfl, Nat.zero_le _, HI0⟩
  case round =>
   clear HI0 b4
   obtain ⟨i, gs, cs, f', fr, to, mk, c', rfl, hi, HS⟩ := hrel
   have i0 : (0 : Int) <= (i : Int) := Int.natCast_nonneg _
   have hPT := HS.out.pt
   by_cases hlt : i < tn
   ·have i1 : (i : Int) < (tn : Int) := by omega
    have ti : decide (i < tn) = true := by simpa using hlt
    have til : i < Tl.length := by rw [<- HTL.out, HTN.out]; exact hlt
    obtain ⟨q, hqe⟩ : ∃ q, Tl[i]'til = q := ⟨_, rfl⟩
    have hqm : q ∈ Tl := by rw [<- hqe]; exact List.getElem_mem _
    have hq0 := HTC.out q hqm
    have hgood := HS.out.good
    rw [drop_q til hqe] at hgood
    obtain ⟨hq, hmk0⟩ := (hgood.touch q).1 (List.mem_cons_self ..)
    obtain ⟨g1, g2, g3⟩ := hgood.span q hq
    have hcN2 := hgood.count_le
    have HPA := Lib.hid hgood.pa; have HAP := Lib.hid hgood.ap
    have hrd := hPT.touch.readsI
    have hrd' : ReadsI wr (.slice TA tn tc) tn (intsN Tl) := by
     have h1 : L.tv = .slice TA L.tn tc := HTV.out
     have h2 : (({ L with gs := gs, cs := cs } : Lay).tv) = .slice TA L.tn tc := h1
     rw [h2] at hrd
     rw [<- HTN.out]
     exact hrd
    obtain ⟨gv, ov, hva, -, cv⟩ := hrd'.at i hlt
    subst hva
    have ce : (intsN Tl).getD i 0 = (q : Int) := by simp [intsN, List.getD, List.getElem?_eq_getElem til, hqe]
    rw [ce] at cv
    obtain ⟨cs1, cs2⟩ := hPT.spanCap
    obtain ⟨s0, s1, s2, sf⟩ := hPT.spanAt hq
    have sf2 := sf (q * 3 + 2)
    have b3 := hPT.box.cell 3
    simp only [List.getElem?_toArray, List.getElem?_cons_zero, List.getElem?_cons_succ] at b3
    have q0 : (0 : Int) <= (q : Int) := Int.natCast_nonneg _
    have q1 : (q : Int) < (c' : Int) := by omega
    have tq : decide (q < c') = true := by simpa using hq
    have sm : IntKind.i64.wrap ((fr q : Int) + (mk q : Int)) = ((fr q + mk q : Nat) : Int) := by rw [IntWalk.i64_in _ (by omega)]; omega
    have HQE := Lib.hid hqe
    have HPT := Lib.hid hPT
    clear hgood hrd hrd' hqm ce sf hPT hqe
    generalize hbb : fr q + mk q = bb at *
    have HBB := Lib.hid hbb
    clear hbb
    go_wp2_with fail
    go_quiet (fail)
    obtain ⟨W1, hW1⟩ : ∃ W1, wr.drewN nq = W1 := ⟨_, rfl⟩
    have HPT1 : Hid (PtAt W1 B ({ L with gs := gs, cs := cs } : Lay) N A P f' fr to mk c' Tl) := Lib.hid (by rw [<- hW1]; exact HPT.out.keep ((Fr.refl (fun _ => False) wr).drewN nq) (fun _ _ => id))
    have HF1 : Hid (Fr L.has w W1) := Lib.hid (by rw [<- hW1]; exact HS.out.fr_.drewN nq)
    rw [hW1]
    clear hW1 HPT s0 s1 s2 sf2 b3 cv
    obtain ⟨s0, s1, s2, sf⟩ := HPT1.out.spanAt hq
    have sf2 := sf (q * 3 + 2)
    have hgsw : gs = L.gs \/ w.heap.size <= gs := HS.out.gs_
    have HGS := Lib.hid hgsw
    clear sf hgsw
    obtain ⟨W2, hW2⟩ : ∃ W2, W1.setCell ⟨gs, q * 3 + 2, none⟩ (.int .i64 0) = W2 := ⟨_, rfl⟩
    have HPT2 : Hid (PtAt W2 B ({ L with gs := gs, cs := cs } : Lay) N A P f' fr to (updN mk q 0) c' Tl) := Lib.hid (by rw [<- hW2]; exact HPT1.out.marked q 0)
    have hXg : L.has gs \/ w.heap.size <= gs := by
     rcases HGS.out with e | e
     ·exact .inl (.inr (.inr (.inr (.inr (.inl e)))))
     ·exact .inr e
    have HXG := Lib.hid hXg
    have HF2 : Hid (Fr L.has w W2) := Lib.hid (by rw [<- hW2]; exact HF1.out.set_ (p := ⟨gs, q * 3 + 2, none⟩) hXg _)
    have HW2 := Lib.hid hW2
    clear hXg hW2 HPT1 HF1 sm
    by_cases hw : bb = to q
    ·rw [<- hw] at s1
     have HWW := Lib.hid hw
     clear hw
     go_wp2_with fail
     refine ⟨⟨i + 1, gs, cs, f', fr, to, updN mk q 0, c', by go_num, by omega, Lib.hid ?_⟩, by simp [intOf]; omega⟩
     rw [HW2.out]
     exact HS.out.whole til HQE.out (by rw [HBB.out, HWW.out]) HPT2.out HF2.out hq0 HND.out
    ·have hbl : bb < to q := by omega
     have hfb : fr q <= bb := by have := HBB.out; omega
     have hfb2 : fr q < bb := by have := HBB.out; omega
     have hwI : ¬ (bb : Int) = (to q : Int) := by omega
     go_wp2_with fail
     rw [HW2.out]
     clear s0 s1 s2 sf2
     obtain ⟨t0, t1, -, tf⟩ := HPT2.out.spanAt hq
     have d1 : IntKind.i64.wrap ((bb : Int) - (fr q : Int)) = ((bb - fr q : Nat) : Int) := by rw [IntWalk.i64_in _ (by omega)]; omega
     have d2 : IntKind.i64.wrap ((to q : Int) - (bb : Int)) = ((to q - bb : Nat) : Int) := by rw [IntWalk.i64_in _ (by omega)]; omega
     have tf0 := tf (q * 3)
     have tf1 := tf (q * 3 + 1)
     clear tf
     go_quiet (fail)
     obtain ⟨W3, hW3⟩ : ∃ W3, W2.drewN nq = W3 := ⟨_, rfl⟩
     have HPT3 : Hid (PtAt W3 B ({ L with gs := gs, cs := cs } : Lay) N A P f' fr to (updN mk q 0) c' Tl) := Lib.hid (by rw [<- hW3]; exact HPT2.out.keep ((Fr.refl (fun _ => False) W2).drewN nq) (fun _ _ => id))
     have HF3 : Hid (Fr L.has w W3) := Lib.hid (by rw [<- hW3]; exact HF2.out.drewN nq)
     rw [hW3]
     clear hW3 HPT2 HF2 HW2 t0 t1 tf0 tf1 d1 d2 hwI
     obtain ⟨t0, t1, -, tf⟩ := HPT3.out.spanAt hq
     have tf0 := tf (q * 3)
     have tf1 := tf (q * 3 + 1)
     have HNW := Lib.hid hw
     clear tf hw
     by_cases hcmp : bb - fr q <= to q - bb
     ·have hcI : ((bb - fr q : Nat) : Int) <= ((to q - bb : Nat) : Int) := by omega
      have hcD : decide (bb - fr q <= to q - bb) = true := by simpa using hcmp
      obtain ⟨W4, hW4⟩ : ∃ W4, W3.setCell ⟨gs, q * 3, none⟩ (.int .i64 (bb : Int)) = W4 := ⟨_, rfl⟩
      have HPT4 : Hid (PtAt W4 B ({ L with gs := gs, cs := cs } : Lay) N A P f' (updN fr q bb) (to) (updN mk q 0) c' Tl) := Lib.hid (by rw [<- hW4]; exact HPT3.out.from_ q bb)
      have HF4 : Hid (Fr L.has w W4) := Lib.hid (by rw [<- hW4]; exact HF3.out.set_ (p := ⟨gs, q * 3, none⟩) HXG.out _)
      have HADD := Lib.hid (padd_any HPT4.out HPA.out HAP.out (fr q) (bb) hfb2 (by omega) hN6 hcN2 (Nat.le_trans hBw HF4.out.size))
      have HW4 := Lib.hid hW4
      clear hW4 HPT3 HF3
      go_wp2_with fail
      rw [HW4.out]
      refine HADD.out.mono ?_
      rintro e w5 ⟨rfl, gs5, cs5, hpt5, hf5, hgs5⟩
      have HPT5 := Lib.hid hpt5
      have HF5 : Hid (Fr L.has w w5) := Lib.hid (HF4.out.then_ hf5 (fun k hk hx => by
       rcases hx with e | e | e | e | e | e
       ·exact .inl e
       ·exact .inr (.inl e)
       ·exact .inr (.inr (.inl e))
       ·exact .inr (.inr (.inr (.inl e)))
       ·have e' : k = gs := e
        subst e'
        rcases HXG.out with r | r
        ·exact r
        ·omega
       ·exact .inr (.inr (.inr (.inr (.inr e))))))
      have HG5 : Hid (gs5 = L.gs \/ w.heap.size <= gs5) := Lib.hid (by
       rcases hgs5 with e | e
       ·rcases HGS.out with r | r
        ·exact .inl (e.trans r)
        ·exact .inr (by rw [e]; exact r)
       ·exact .inr (Nat.le_trans HF4.out.size e))
      clear hpt5 hf5 hgs5 HADD HPT4 HF4
      go_wp2_with fail
      refine ⟨⟨i + 1, gs5, cs5, _, _, _, _, c' + 1, by go_num, by omega, Lib.hid (HS.out.part til HQE.out (a := fr q) (b := bb) (.inl ⟨rfl, HBB.out.symm, rfl, rfl⟩) (by rw [HBB.out]; exact HNW.out) HPT5.out HF5.out HG5.out hq0 HND.out)⟩, by simp [intOf]; omega⟩
     ·have hcI : ¬ ((bb - fr q : Nat) : Int) <= ((to q - bb : Nat) : Int) := by omega
      have hcD : decide (bb - fr q <= to q - bb) = false := by simpa using hcmp
      obtain ⟨W4, hW4⟩ : ∃ W4, W3.setCell ⟨gs, q * 3 + 1, none⟩ (.int .i64 (bb : Int)) = W4 := ⟨_, rfl⟩
      have HPT4 : Hid (PtAt W4 B ({ L with gs := gs, cs := cs } : Lay) N A P f' (fr) (updN to q bb) (updN mk q 0) c' Tl) := Lib.hid (by rw [<- hW4]; exact HPT3.out.to_ q bb)
      have HF4 : Hid (Fr L.has w W4) := Lib.hid (by rw [<- hW4]; exact HF3.out.set_ (p := ⟨gs, q * 3 + 1, none⟩) HXG.out _)
      have HADD := Lib.hid (padd_any HPT4.out HPA.out HAP.out (bb) (to q) hbl g2 hN6 hcN2 (Nat.le_trans hBw HF4.out.size))
      have HW4 := Lib.hid hW4
      clear hW4 HPT3 HF3
      go_wp2_with fail
      rw [HW4.out]
      refine HADD.out.mono ?_
      rintro e w5 ⟨rfl, gs5, cs5, hpt5, hf5, hgs5⟩
      have HPT5 := Lib.hid hpt5
      have HF5 : Hid (Fr L.has w w5) := Lib.hid (HF4.out.then_ hf5 (fun k hk hx => by
       rcases hx with e | e | e | e | e | e
       ·exact .inl e
       ·exact .inr (.inl e)
       ·exact .inr (.inr (.inl e))
       ·exact .inr (.inr (.inr (.inl e)))
       ·have e' : k = gs := e
        subst e'
        rcases HXG.out with r | r
        ·exact r
        ·omega
       ·exact .inr (.inr (.inr (.inr (.inr e))))))
      have HG5 : Hid (gs5 = L.gs \/ w.heap.size <= gs5) := Lib.hid (by
       rcases hgs5 with e | e
       ·rcases HGS.out with r | r
        ·exact .inl (e.trans r)
        ·exact .inr (by rw [e]; exact r)
       ·exact .inr (Nat.le_trans HF4.out.size e))
      clear hpt5 hf5 hgs5 HADD HPT4 HF4
      go_wp2_with fail
      refine ⟨⟨i + 1, gs5, cs5, _, _, _, _, c' + 1, by go_num, by omega, Lib.hid (HS.out.part til HQE.out (a := bb) (b := to q) (.inr ⟨HBB.out.symm, rfl, rfl, rfl⟩) (by rw [HBB.out]; exact HNW.out) HPT5.out HF5.out HG5.out hq0 HND.out)⟩, by simp [intOf]; omega⟩
   ·obtain rfl : i = tn := by omega
    have hS := HS.out
    have hsz := hPT.box.lt
    have b4 := hPT.box.cell 4
    have bf := hPT.box.frozen 4
    simp only [List.getElem?_toArray, List.getElem?_cons_zero, List.getElem?_cons_succ] at b4
    rw [HTV.out, HTN.out] at b4
    clear hS hPT
    go_wp2_with fail
    go_end0
    have hS := HS.out
    have hL0 : Tl.take i = Tl := List.take_of_length_le (by rw [<- HTL.out, HTN.out]; exact Nat.le_refl _)
    have hL1 : Tl.drop i = [] := List.drop_of_length_le (by rw [<- HTL.out, HTN.out]; exact Nat.le_refl _)
    have hg := hS.good
    rw [hL0, hL1] at hg
    have hsp := hS.split
    rw [hL0] at hsp
    have hpt := hS.pt
    have hO : Own wr B (.slice TA i tc) i (Tl.map Int.ofNat) := by
     have h1 : L.tv = .slice TA L.tn tc := HTV.out
     have h2 := hpt.touch
     have h3 : (({ L with gs := gs, cs := cs } : Lay).tv) = .slice TA L.tn tc := h1
     rw [h3] at h2
     rw [<- HTN.out]
     exact h2
    have hoB : (Value.slice TA 0 tc).ownBlock = L.tv.ownBlock := by rw [HTV.out]; cases TA <;> rfl
    refine ⟨rfl, ({ L with gs := gs, cs := cs, tv := .slice TA 0 tc, tn := 0 } : Lay), rfl, f', fr, to, mk, c', ?_, hg.congrM (fun x hx => ⟨fun r => r.2 (HTM.out x hx r.1), False.elim⟩), hsp.all hg.parted HTM.out, hS.fr_.set_ (p := ⟨L.b, 4, none⟩) (.inl (.inl rfl)) _, fun k hk hx => ?_⟩
    ·have hok := hpt.ok
     refine ⟨?_, own_set hpt.all (p := ⟨L.b, 4, none⟩) (fun e => hok.ba.symm (by simpa [Value.ownBlock] using e)) _, own_set hpt.places (p := ⟨L.b, 4, none⟩) (fun e => hok.bp.symm (by simpa [Value.ownBlock] using e)) _, own_set hpt.of (p := ⟨L.b, 4, none⟩) (fun e => hok.bo.symm (by simpa [Value.ownBlock] using e)) _, rows_set hpt.spans (fun e => hok.bs e.symm) _, ?_, ?_, hpt.bB⟩
     ·have := hpt.box.set_ 4 (.slice TA 0 tc)
      simpa using this
     ·exact own_set (own_front0 hO) (p := ⟨L.b, 4, none⟩) (by rw [hoB]; exact hok.bt) _
     ·exact ⟨hok.ba, hok.bp, hok.bo, hok.bs, by rw [hoB]; exact hok.bt, hok.ap, hok.ao, hok.as_, by rw [hoB]; exact hok.at_, hok.po, hok.ps, by rw [hoB]; exact hok.pt, hok.os, by rw [hoB]; exact hok.ot, by rw [hoB]; exact hok.st⟩
    ·rcases hx with e | e | e | e | e | e
     ·exact .inl e
     ·exact .inr (.inl e)
     ·exact .inr (.inr (.inl e))
     ·exact .inr (.inr (.inr (.inl e)))
     ·have e' : k = gs := e
      rcases hS.gs_ with r | r
      ·exact .inr (.inr (.inr (.inr (.inl (e'.trans r)))))
      ·omega
     ·exact .inr (.inr (.inr (.inr (.inr (by rw [<- hoB]; exact e)))))
end Go.Proofs.Ytdcokkgdahbinaa
