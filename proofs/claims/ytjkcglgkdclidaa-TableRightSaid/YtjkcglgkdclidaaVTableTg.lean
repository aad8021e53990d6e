/- The reference's reader: num, count. The reference's reader: num. The reference's reader by what is left: num, count. The reference's reader: lists by what is left; nums. -/
import Derived.Test.YtjkcglgkdclidaaVTableYq
import Derived.Test.YtjkcglgkdclidaaVTableK
set_option linter.unusedVariables false
set_option linter.unusedSimpArgs false
set_option maxRecDepth 100000
set_option maxHeartbeats 4000000
namespace Go.Proofs.Ytjkcglgkdclidaa
open Go Go.RowKit Go.Proofs
structure RCur (w : World) (b S : Nat) (A : Option Addr) (cap : Nat) (bs : List Int) (bad : Bool) : Prop where
 x : Blk w b 84 #[.slice A bs.length cap, .bool bad]
 r : BytesR w (.slice A bs.length cap) bs.length bs
 lo : ∀ p, A = some p -> p.block < S
 lb : b < S
theorem BytesR.far2 {w w' : World} {v : Value} {n : Nat} {l : List Int} {b : Nat} {t : TypeId} {A : Option Addr} {m cap : Nat} {br : Bool} (h : BytesR w v n l) (hf : Fr (fun q => q = b) w w') (hx : Blk w b t #[.slice A m cap, .bool br]) : BytesR w' v n l :=
 ⟨h.1.far hf hx (fun a _ j u hj i hi => by
  have hu : u = .int .u8 a := by
   match j, hj with
   | 0, hj => simpa [encB] using hj.symm
   | j + 1, hj => simp [encB] at hj
  subst hu
  match i, hi with
  | 0, hi => simp at hi
  | 1, hi => simp at hi
  | i + 2, hi => simp at hi), h.2⟩
section
variable {w w' : World} {b S : Nat} {A : Option Addr} {cap : Nat} {bs : List Int} {bad : Bool}
theorem RCur.below (h : RCur w b S A cap bs bad) (hb : Below w.heap.size w w') : RCur w' b S A cap bs bad := ⟨Blk.below h.x hb h.x.lt, h.r.below hb, h.lo, h.lb⟩
theorem RCur.bad_ (h : RCur w b S A cap bs bad) : RCur (w.setCell ⟨b, 1, none⟩ (.bool true)) b S A cap bs true :=
 ⟨by simpa using h.x.set_ 1 (.bool true), h.r.far2 ((Fr.refl (fun q => q = b) w).set_ (p := ⟨b, 1, none⟩) (.inl rfl) _) h.x, h.lo, h.lb⟩
theorem RCur.none_ (h : RCur w b S A cap bs bad) : RCur (w.setCell ⟨b, 0, none⟩ (.slice none 0 0)) b S none 0 [] bad :=
 ⟨by simpa using h.x.set_ 0 (.slice none 0 0), ⟨⟨rfl, none, 0, rfl, Nat.le_refl _, Nat.zero_le _, fun _ => rfl, fun i x hi => by simp at hi⟩, fun x hx => by simp at hx⟩, (fun p e => by cases e), h.lb⟩
theorem RCur.zero {g o : Nat} (h : RCur w b S (some ⟨g, o, none⟩) cap bs bad) : RCur (w.setCell ⟨b, 0, none⟩ (.slice (some ⟨g, o, none⟩) 0 0)) b S (some ⟨g, o, none⟩) 0 [] bad :=
 ⟨by simpa using h.x.set_ 0 (.slice (some ⟨g, o, none⟩) 0 0), ⟨⟨rfl, some ⟨g, o, none⟩, 0, rfl, Nat.le_refl _, Nat.zero_le _, fun _ => rfl, fun i x hi => by simp at hi⟩, fun x hx => by simp at hx⟩, (fun p e => by cases e; exact h.lo ⟨g, o, none⟩ rfl), h.lb⟩
theorem RCur.skip {g o : Nat} (h : RCur w b S (some ⟨g, o, none⟩) cap bs bad) {k : Nat} (hk : k <= bs.length) (hc : k < cap) : RCur (w.setCell ⟨b, 0, none⟩ (.slice (some ⟨g, o + k, none⟩) (bs.length - k) (cap - k))) b S (some ⟨g, o + k, none⟩) (cap - k) (bs.drop k) bad := by
 have hl : (bs.drop k).length = bs.length - k := List.length_drop
 refine ⟨by rw [hl]; simpa using h.x.set_ 0 (.slice (some ⟨g, o + k, none⟩) (bs.length - k) (cap - k)), ?_, (fun p e => by cases e; exact h.lo ⟨g, o, none⟩ rfl), h.lb⟩
 have hr := h.r.far2 ((Fr.refl (fun q => q = b) w).set_ (p := ⟨b, 0, none⟩) (.inl rfl) (.slice (some ⟨g, o + k, none⟩) (bs.length - k) (cap - k))) h.x
 obtain ⟨⟨h1, a, c, h2, h5, h6, h3, h4⟩, hb⟩ := hr
 simp only [Value.slice.injEq, true_and] at h2
 obtain ⟨rfl, rfl⟩ := h2
 refine ⟨⟨rfl, some ⟨g, o + k, none⟩, cap - k, by rw [hl], by rw [hl]; omega, by omega, (fun e => by cases e), fun i x hi => ?_⟩, fun x hx => hb x (List.mem_of_mem_drop hx)⟩
 rw [List.getElem?_drop] at hi
 obtain ⟨g', off, e, hc⟩ := h4 (k + i) x hi
 simp only [Option.some.injEq, Addr.mk.injEq, and_true] at e
 obtain ⟨rfl, rfl⟩ := e
 refine ⟨g, o + k, rfl, fun j u hj => ?_⟩
 have := hc j u hj
 rw [show o + k + i * 1 + j = o + (k + i) * 1 + j by omega]
 exact this
theorem RCur.low (h : RCur w b S A cap bs bad) (hb : Below S w w') : RCur w' b S A cap bs bad := by
 refine ⟨Blk.below h.x hb h.lb, ?_, h.lo, h.lb⟩
 have hlo := h.lo
 obtain ⟨⟨h1, a, c, h2, h5, h6, h3, h4⟩, hy⟩ := h.r
 simp only [Value.slice.injEq, true_and] at h2
 obtain ⟨rfl, rfl⟩ := h2
 refine ⟨⟨h1, A, cap, rfl, h5, h6, h3, fun i x hi => ?_⟩, hy⟩
 obtain ⟨g, off, e, hc⟩ := h4 i x hi
 exact ⟨g, off, e, fun j u hj => (World.cell?_of_block (a := ⟨g, off + i * 1 + j, none⟩) (hb.block g (hlo _ e))).trans (hc j u hj)⟩
end
end Go.Proofs.Ytjkcglgkdclidaa
namespace Go.Proofs.Ytjkcglgkdclidaa
open Go Go.RowKit Go.Proofs
theorem rdnum_any {w : World} {b S cap : Nat} {A : Option Addr} {bs : List Int} {bad : Bool} (h : RCur w b S A cap bs bad) :
  Calls Try.prog 40 #[.pointer (some ⟨b, 0, none⟩)] w fun e w' => (8 <= bs.length -> e = .returned (.int .i64 (un8 (bs.take 8))) /\ ∃ A' cap', RCur w' b S A' cap' (bs.drop 8) bad) /\ (bs.length < 8 -> e = .returned (.int .i64 0) /\ ∃ A' cap', RCur w' b S A' cap' [] true) /\ Fr (fun q => q = b) w w' := by
  have HC := Lib.hid h
  obtain ⟨A', c', e, l1, l2, -⟩ := h.r.form
  simp only [Value.slice.injEq, true_and] at e
  obtain ⟨rfl, rfl⟩ := e
  have c0 := h.x.cell 0; have c1 := h.x.cell 1; have f0 := h.x.frozen 0; have f1 := h.x.frozen 1
  simp only [List.getElem?_toArray, List.getElem?_cons_zero, List.getElem?_cons_succ] at c0 c1
  obtain ⟨n, hn⟩ : ∃ n, bs.length = n := ⟨_, rfl⟩
  have HN := Lib.hid hn
  rw [hn] at c0 l1
  have n0 : (0 : Int) <= (n : Int) := Int.natCast_nonneg _
  clear h hn
  go_enter Try.func40, Try.ntmps40
  by_cases h8 : n < 8
  ·have i8 : (n : Int) < 8 := by omega
   go_wp2_with fail
   go_ret
   refine ⟨fun e => absurd e (by rw [HN.out]; omega), fun _ => ⟨rfl, _, _, (HC.out.bad_).none_⟩, (((Fr.refl (fun q => q = b) w).set_ (p := ⟨b, 1, none⟩) (.inl rfl) _).set_ (p := ⟨b, 0, none⟩) (.inl rfl) _)⟩
  ·have i8 : ¬ (n : Int) < 8 := by omega
   have i9 : (8 : Int) <= (cap : Int) := by omega
   have i10 : (8 : Int) <= (n : Int) := by omega
   obtain ⟨g0, o0, eA, -, -⟩ := HC.out.r.at (i := 0) (by rw [HN.out]; omega)
   subst eA
   have hdl : (bs.take 8).length = 8 := by rw [List.length_take, HN.out]; omega
   have hdg : ∀ i, i < 8 -> (bs.take 8).getD i 0 = bs.getD i 0 := fun i hi => by
    simp [List.getD_eq_getElem?_getD, List.getElem?_take, hi]
   obtain ⟨e8, he8⟩ : ∃ e, bs.take 8 = e := ⟨_, rfl⟩
   rw [he8] at hdl hdg
   have HDL := Lib.hid hdl; have HDG := Lib.hid hdg; have HE8 := Lib.hid he8
   clear he8 hdl hdg
   go_wp2_with fail
   go_loopw [3, 4] (fun v3 vi wr => ∃ i : Nat, vi = .int .i64 (i : Int) /\ i <= 8 /\ v3 = .int .i64 (un8 (e8.take i)) /\ wr = w) (fun _ vi _ => 8 - (intOf vi).toNat)
   case atStart => exact ⟨0, rfl, Nat.zero_le _, rfl, rfl⟩
   case round =>
    obtain ⟨i, rfl, hi, rfl, rfl⟩ := hrel
    have i0 : (0 : Int) <= (i : Int) := Int.natCast_nonneg _
    by_cases hlt : i < 8
    ·have i1 : (i : Int) < 8 := by omega
     have i2 : (i : Int) < (n : Int) := by omega
     have t1 : decide (i < 8) = true := by simpa using hlt
     have t2 : decide (8 <= i) = false := by simpa using hlt
     obtain ⟨g, o, e, cx, hy⟩ := HC.out.r.at (i := i) (by rw [HN.out]; omega)
     simp only [Option.some.injEq, Addr.mk.injEq, and_true] at e
     obtain ⟨rfl, rfl⟩ := e
     rw [<- HDG.out i hlt] at cx hy
     have hs := un8_take_succ (l := e8) (i := i) (by rw [HDL.out]; exact hlt)
     generalize e8.getD i 0 = y at *
     generalize un8 (e8.take i) = s at *
     obtain ⟨y0, y1⟩ := hy
     obtain ⟨S, hS⟩ : ∃ S, IntKind.i64.wrap (s * 256) = S := ⟨_, rfl⟩
     have hS2 : S % 256 = 0 := by rw [<- hS, IntKind.wrap_i64]; omega
     have W0 : IntKind.i64.wrap y = y := IntWalk.i64_in _ (by omega)
     have W2 : bits .or .i64 S y = un8 (e8.take (i + 1)) := by
      rw [i64_or_low hS2 y0 y1, hs, <- hS, IntKind.wrap_i64, IntKind.wrap_i64]
      unfold wr64
      omega
     clear hs hS2
     go_wp2_with fail
     exact ⟨⟨i + 1, by go_num, by omega, rfl, by trivial⟩, by simp [intOf]; omega⟩
    ·obtain rfl : i = 8 := by omega
     have HE : Hid (un8 (e8.take 8) = un8 e8) := Lib.hid (by rw [List.take_of_length_le (by rw [HDL.out]; exact Nat.le_refl _)])
     by_cases hcap : cap = 8
     ·subst hcap
      go_wp2_with fail
      go_ret
      have e8n : n = 8 := by omega
      have hd : bs.drop 8 = [] := List.drop_eq_nil_of_le (by rw [HN.out]; omega)
      exact ⟨fun _ => ⟨(by rw [HE.out, HE8.out]; rfl), _, _, by rw [hd]; exact HC.out.zero⟩, fun e => absurd e (by rw [HN.out]; omega), (Fr.refl (fun q => q = b) wr).set_ (p := ⟨b, 0, none⟩) (.inl rfl) _⟩
     ·have a3 : ¬ 8 = cap := fun e => hcap e.symm
      have hk := HC.out.skip (k := 8) (by rw [HN.out]; omega) (by omega)
      rw [HN.out] at hk
      have HK := Lib.hid hk
      clear hk
      go_wp2_with fail
      go_ret
      exact ⟨fun _ => ⟨(by rw [HE.out, HE8.out]; rfl), _, _, HK.out⟩, fun e => absurd e (by rw [HN.out]; omega), (Fr.refl (fun q => q = b) wr).set_ (p := ⟨b, 0, none⟩) (.inl rfl) _⟩
end Go.Proofs.Ytjkcglgkdclidaa
namespace Go.Proofs.Ytjkcglgkdclidaa
open Go Go.RowKit Go.Proofs
def RSt (w : World) (b c S : Nat) (rest : Option (List Int)) : Prop :=
 ∃ A cap bs bad, RCur w b S A cap bs bad /\ (rest = none -> bad = true) /\ ∀ L, rest = some L -> bad = false /\ bs.length % 8 = c /\ L = numsK (bs.length / 8) bs
def manyR (rest : Option (List Int)) : Int × Option (List Int) :=
 if 0 <= (takeN rest).1 /\ (takeN rest).1 <= 100000 /\ (takeN rest).1 <= (leftN (takeN rest).2 : Int) then takeN rest else (0, none)
theorem RSt.below {w w' : World} {b c S : Nat} {rest : Option (List Int)} (h : RSt w b c S rest) (hb : Below w.heap.size w w') : RSt w' b c S rest := by
 obtain ⟨A, cap, bs, bad, h1, h2⟩ := h
 exact ⟨A, cap, bs, bad, h1.below hb, h2⟩
theorem RSt.low {w w' : World} {b c S : Nat} {rest : Option (List Int)} (h : RSt w b c S rest) (hb : Below S w w') : RSt w' b c S rest := by
 obtain ⟨A, cap, bs, bad, h1, h2⟩ := h
 exact ⟨A, cap, bs, bad, h1.low hb, h2⟩
theorem RSt.lb {w : World} {b c S : Nat} {rest : Option (List Int)} (h : RSt w b c S rest) : b < S := by
 obtain ⟨A, cap, bs, bad, h1, h2⟩ := h
 exact h1.lb
theorem rtakeR_any {w : World} {b c S : Nat} {rest : Option (List Int)} (h : RSt w b c S rest) :
  Calls Try.prog 40 #[.pointer (some ⟨b, 0, none⟩)] w fun e w' => ∃ x, e = .returned (.int .i64 x) /\ Int64 x /\ (rest ≠ none -> x = (takeN rest).1) /\ RSt w' b c S (takeN rest).2 /\ Fr (fun q => q = b) w w' := by
  obtain ⟨A, cap, bs, bad, h1, h2, h3⟩ := h
  refine (rdnum_any h1).mono ?_
  rintro e w' ⟨hyes, hno, hf⟩
  rcases Nat.lt_or_ge bs.length 8 with h8 | h8
  ·obtain ⟨rfl, A', cap', hc⟩ := hno h8
   refine ⟨0, rfl, by unfold Int64; omega, fun hr => ?_, ⟨A', cap', [], true, hc, fun _ => rfl, fun L e => ?_⟩, hf⟩
   ·cases rest with
    | none => exact absurd rfl hr
    | some L =>
      have := (h3 L rfl).2.2
      rw [show bs.length / 8 = 0 by omega] at this
      subst this
      rfl
   ·cases rest with
    | none => cases e
    | some L' =>
      have := (h3 L' rfl).2.2
      rw [show bs.length / 8 = 0 by omega] at this
      subst this
      cases e
  ·obtain ⟨rfl, A', cap', hc⟩ := hyes h8
   refine ⟨_, rfl, un8_in _ (by rw [List.length_take]; omega), fun hr => ?_, ?_, hf⟩
   ·cases rest with
    | none => exact absurd rfl hr
    | some L =>
      have := (h3 L rfl).2.2
      rw [show bs.length / 8 = (bs.length / 8 - 1) + 1 by omega] at this
      subst this
      rfl
   ·cases rest with
    | none => exact ⟨A', cap', _, bad, hc, fun _ => h2 rfl, fun L e => by cases e⟩
    | some L =>
      obtain ⟨q1, q2, q3⟩ := h3 L rfl
      have q4 := q3
      rw [show bs.length / 8 = (bs.length / 8 - 1) + 1 by omega] at q4
      subst q4
      refine ⟨A', cap', _, bad, hc, (fun e => by cases e), fun L' e => ?_⟩
      simp only [numsK, takeN, Option.some.injEq] at e
      refine ⟨q1, by rw [List.length_drop]; omega, ?_⟩
      rw [<- e, List.length_drop, show (bs.length - 8) / 8 = bs.length / 8 - 1 by omega]
theorem rcountR_any {w : World} {b c S : Nat} {rest : Option (List Int)} (h : RSt w b c S rest) :
  Calls Try.prog 43 #[.pointer (some ⟨b, 0, none⟩)] w fun e w' => ∃ x : Nat, e = .returned (.int .i64 (x : Int)) /\ x <= 100000 /\ (rest ≠ none -> (x : Int) = (manyR rest).1) /\ RSt w' b c S (manyR rest).2 /\ Fr (fun q => q = b) w w' := by
  have HR := Lib.hid h
  clear h
  go_enter Try.func43, Try.ntmps43
  go_wp2_with fail
  refine (rtakeR_any HR.out).mono ?_
  rintro e w1 ⟨x, rfl, hx, hxr, hs, hf⟩
  obtain ⟨x1, x2⟩ := hx
  obtain ⟨A, cap, bs, bad, h1, h2, h3⟩ := hs
  obtain ⟨A', c', e, l1, l2, -⟩ := h1.r.form
  simp only [Value.slice.injEq, true_and] at e
  obtain ⟨rfl, rfl⟩ := e
  have c0 := h1.x.cell 0; have c1 := h1.x.cell 1; have f1 := h1.x.frozen 1
  simp only [List.getElem?_toArray, List.getElem?_cons_zero, List.getElem?_cons_succ] at c0 c1
  obtain ⟨n, hn⟩ : ∃ n, bs.length = n := ⟨_, rfl⟩
  rw [hn] at c0 l1
  have n0 : (0 : Int) <= (n : Int) := Int.natCast_nonneg _
  have W2 : ((n : Int)).tdiv 8 = ((n / 8 : Nat) : Int) := by
   rw [Int.tdiv_eq_ediv_of_nonneg (by omega)]; omega
  have W3 : IntKind.i64.wrap ((n / 8 : Nat) : Int) = ((n / 8 : Nat) : Int) := IntWalk.i64_in _ (by omega)
  have hleft : ∀ L, (takeN rest).2 = some L -> (leftN (takeN rest).2 : Int) = ((n / 8 : Nat) : Int) := fun L e => by
   rw [e]
   show ((L.length : Nat) : Int) = _
   rw [(h3 L e).2.2, numsK_len, hn]
  have hyes : 0 <= x -> x <= 100000 -> x <= ((n / 8 : Nat) : Int) -> (rest ≠ none -> x = (manyR rest).1) /\ RSt w1 b c S (manyR rest).2 := fun g1 g2 g3 => by
   cases hr : (takeN rest).2 with
   | none =>
     have e0 : (manyR rest).2 = none := by unfold manyR; split
                                           ·exact hr
                                           ·rfl
     refine ⟨fun h => ?_, by rw [e0]; exact ⟨A, cap, bs, bad, h1, fun _ => h2 hr, fun L e => by cases e⟩⟩
     have e1 : (takeN rest).1 = 0 := by
      match rest, hr with
      | none, _ => rfl
      | some [], _ => rfl
      | some (a :: L), hr => cases hr
     rw [hxr h]
     unfold manyR
     split
     ·rfl
     ·exact e1
   | some L =>
     have hne : rest ≠ none := fun e => by rw [e] at hr; cases hr
     have e1 := hxr hne
     have e2 := hleft L hr
     have e3 : manyR rest = takeN rest := by
      unfold manyR
      rw [if_pos ⟨by rw [<- e1]; exact g1, by rw [<- e1]; exact g2, by rw [<- e1, e2]; exact g3⟩]
     rw [e3]
     exact ⟨fun _ => e1, A, cap, bs, bad, h1, h2, h3⟩
  have hno : ¬ (0 <= x /\ x <= 100000 /\ x <= ((n / 8 : Nat) : Int)) -> (rest ≠ none -> (0 : Int) = (manyR rest).1) /\ (manyR rest).2 = none := fun g => by
   cases hr : (takeN rest).2 with
   | none =>
     have e1 : (takeN rest).1 = 0 := by
      match rest, hr with
      | none, _ => rfl
      | some [], _ => rfl
      | some (a :: L), hr => cases hr
     unfold manyR
     split
     ·exact ⟨fun _ => e1.symm, hr⟩
     ·exact ⟨fun _ => rfl, rfl⟩
   | some L =>
     have hne : rest ≠ none := fun e => by rw [e] at hr; cases hr
     have e1 := hxr hne
     have e2 := hleft L hr
     unfold manyR
     rw [if_neg (by rw [<- e1, e2]; exact g)]
     exact ⟨fun _ => rfl, rfl⟩
  have HBAD : Hid (RSt (w1.setCell ⟨b, 1, none⟩ (.bool true)) b c S none) := Lib.hid ⟨A, cap, bs, true, h1.bad_, fun _ => rfl, fun L e => by cases e⟩
  have HFB : Hid (Fr (fun q => q = b) w (w1.setCell ⟨b, 1, none⟩ (.bool true))) := Lib.hid (hf.set_ (p := ⟨b, 1, none⟩) (.inl rfl) _)
  have HF := Lib.hid hf
  have HYES := Lib.hid hyes; have HNO := Lib.hid hno
  obtain ⟨m, hm⟩ : ∃ m : Int, ((n / 8 : Nat) : Int) = m := ⟨_, rfl⟩
  rw [hm] at HYES HNO W2 W3
  clear hyes hno hleft h1 h2 h3 hxr hf hn HR hm
  rcases Int.lt_or_le x 0 with g | g
  ·go_wp2_with fail
   go_ret
   obtain ⟨k1, k2⟩ := HNO.out (by omega)
   exact ⟨0, rfl, Nat.zero_le _, k1, by rw [k2]; exact HBAD.out, HFB.out⟩
  ·have g' : ¬ x < 0 := by omega
   rcases Int.lt_or_le 100000 x with q | q
   ·go_wp2_with fail
    go_ret
    obtain ⟨k1, k2⟩ := HNO.out (by omega)
    exact ⟨0, rfl, Nat.zero_le _, k1, by rw [k2]; exact HBAD.out, HFB.out⟩
   ·have q' : ¬ 100000 < x := by omega
    rcases Int.lt_or_le m x with r | r
    ·go_wp2_with fail
     go_ret
     obtain ⟨k1, k2⟩ := HNO.out (by omega)
     exact ⟨0, rfl, Nat.zero_le _, k1, by rw [k2]; exact HBAD.out, HFB.out⟩
    ·have r' : ¬ m < x := by omega
     go_wp2_with fail
     go_ret
     obtain ⟨k1, k2⟩ := HYES.out g q r
     exact ⟨x.toNat, by rw [Int.toNat_of_nonneg g]; rfl, by omega, by rw [Int.toNat_of_nonneg g]; exact k1, k2, HF.out⟩
end Go.Proofs.Ytjkcglgkdclidaa
namespace Go.Proofs.Ytjkcglgkdclidaa
open Go Go.RowKit Go.Proofs
section
variable {α : Type} {rd : List Int -> Option (α × List Int)} {rest rest1 r r2 : Option (List Int)} {k i : Nat} {l : List α} {x : α}
def RdOut (rd : List Int -> Option (α × List Int)) (rest : Option (List Int)) (x : α) (r : Option (List Int)) : Prop :=
 (rest = none -> r = none) /\ ∀ L, rest = some L -> (∀ y L', rd L = some (y, L') -> x = y /\ r = some L') /\ (rd L = none -> r = none)
def RdInv (rd : List Int -> Option (α × List Int)) (k : Nat) (rest1 : Option (List Int)) (i : Nat) (l : List α) (r : Option (List Int)) : Prop :=
 (rest1 = none -> r = none) /\ (r = none -> ∀ L, rest1 = some L -> rdK rd k L = none) /\ ∀ L', r = some L' -> l.length = i /\ ∃ L, rest1 = some L /\ rdK rd k L = (rdK rd (k - i) L').map (fun p => (l ++ p.1, p.2))
theorem RdInv.start (k : Nat) (rest1 : Option (List Int)) : RdInv rd k rest1 0 [] rest1 :=
 ⟨fun h => h, (fun h L e => by rw [h] at e; cases e), fun L' e => ⟨rfl, L', e, by
  show rdK rd k L' = (rdK rd k L').map _
  cases rdK rd k L' with
  | none => rfl
  | some p => rfl⟩⟩
theorem RdInv.step {L1 : List Int} (h : RdInv rd k rest1 i l (some L1)) (hi : i < k) (hx : RdOut rd (some L1) x r2) : RdInv rd k rest1 (i + 1) (l ++ [x]) r2 := by
 obtain ⟨h0, h1, h2⟩ := h
 obtain ⟨hl, L, hL, hk⟩ := h2 L1 rfl
 have hr := hx.2 L1 rfl
 rw [show k - i = (k - (i + 1)) + 1 by omega] at hk
 cases hrd : rd L1 with
 | none =>
   have e2 := hr.2 hrd
   subst e2
   refine ⟨fun _ => rfl, fun _ L9 e9 => ?_, fun L' e => by cases e⟩
   rw [hL] at e9
   cases e9
   rw [hk]
   simp only [rdK, hrd, Option.map_none]
 | some p =>
   obtain ⟨y, L2⟩ := p
   obtain ⟨rfl, e2⟩ := hr.1 y L2 hrd
   subst e2
   refine ⟨(fun e => by have := h0 e; cases this), (fun e => by cases e), fun L' e => ?_⟩
   cases e
   refine ⟨by rw [List.length_append, hl]; rfl, L, hL, ?_⟩
   rw [hk]
   simp only [rdK, hrd]
   cases rdK rd (k - (i + 1)) L2 with
   | none => rfl
   | some q => simp
theorem rdOut_of (hk : rest ≠ none -> (k : Int) = (manyR rest).1) (h : RdInv rd k (manyR rest).2 i l r) (he : i = k \/ r = none) : RdOut (rdC (some 100000) rd) rest l r := by
 obtain ⟨h0, h1, h2⟩ := h
 refine ⟨fun e => h0 (by rw [e]; rfl), fun L e => ?_⟩
 have hk1 := hk (by rw [e]; exact fun h => by cases h)
 subst e
 cases L with
 | nil => exact ⟨(fun y L' e => by cases e), fun _ => h0 rfl⟩
 | cons n L =>
   by_cases hc : 0 <= n /\ n <= 100000 /\ n <= (L.length : Int)
   ·have em : manyR (some (n :: L)) = (n, some L) := by unfold manyR; exact if_pos hc
    rw [em] at hk1 h0 h1 h2
    have er : rdC (some 100000) rd (n :: L) = rdK rd k L := by
     show (if _ then _ else _) = _
     rw [if_pos ⟨hc.1, hc.2.2, fun m hm => by cases hm; exact hc.2.1⟩, show n.toNat = k by have : (k : Int) = n := hk1; omega]
    rw [er]
    cases r with
    | none => rw [h1 rfl L rfl]; exact ⟨(fun y L' e => by cases e), fun _ => rfl⟩
    | some L' =>
      obtain ⟨hl, L9, e9, e⟩ := h2 L' rfl
      cases e9
      have hik : i = k := by
       rcases he with h | h
       ·exact h
       ·cases h
      subst hik
      rw [Nat.sub_self] at e
      have e' : rdK rd i L = some (l, L') := by rw [e]; simp [rdK]
      rw [e']
      exact ⟨(fun y L2 e2 => by cases e2; exact ⟨rfl, rfl⟩), fun e2 => by cases e2⟩
   ·have em : manyR (some (n :: L)) = (0, none) := by unfold manyR; exact if_neg hc
    rw [em] at h0
    have er : rdC (some 100000) rd (n :: L) = none := if_neg (fun q => hc ⟨q.1, q.2.2 _ rfl, q.2.1⟩)
    rw [er]
    exact ⟨(fun y L' e => by cases e), fun _ => h0 rfl⟩
end
end Go.Proofs.Ytjkcglgkdclidaa
