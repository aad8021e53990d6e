/- Contract of table's cursor: take. The reader by what is left: take, many. -/
import Derived.Test.YtjkcglgkdclidaaVTableC
import Derived.Test.YtjkcglgkdclidaaVMiniMa
import Derived.Laws.BitsLemmas
import Derived.Test.YtjkcglgkdclidaaVTableB
set_option linter.unusedVariables false
set_option linter.unusedSimpArgs false
set_option maxRecDepth 100000
set_option maxHeartbeats 4000000
namespace Go.Proofs.Ytjkcglgkdclidaa
open Go Go.RowKit Go.Proofs
theorem i64_or_low {x y : Int} (hx : x % 256 = 0) (h0 : 0 <= y) (h1 : y < 256) : bits .or .i64 x y = IntKind.i64.wrap (x + y) := by
 have e64 : IntKind.i64.bits = 64 := rfl
 simp only [bits, BitVec.toNat_or, BitVec.toNat_ofInt, e64]
 obtain ⟨X, hX⟩ : ∃ X : Nat, (x % ((2 ^ 64 : Nat) : Int)).toNat = X := ⟨_, rfl⟩
 obtain ⟨Y, hY⟩ : ∃ Y : Nat, (y % ((2 ^ 64 : Nat) : Int)).toNat = Y := ⟨_, rfl⟩
 have e2 : ((2 ^ 64 : Nat) : Int) = 18446744073709551616 := by decide
 rw [hX, hY]
 rw [e2] at hX hY
 have hx2 : (X : Int) = x % 18446744073709551616 := by omega
 have hy2 : (Y : Int) = y := by omega
 have hq : X = 2 ^ 8 * (X / 2 ^ 8) := by omega
 have hor : X ||| Y = X + Y := by
  have := Nat.two_pow_add_eq_or_of_lt (i := 8) (b := Y) (by omega) (X / 2 ^ 8)
  rw [<- hq] at this
  exact this.symm
 rw [hor, IntKind.wrap_i64, IntKind.wrap_i64]
 omega
theorem ctake_any {w : World} {b : Nat} {A : Option Addr} {n cap : Nat} {bs : List Int} {at_ : Nat} {br : Bool} (h : Cur w b A n cap bs at_ br) :
  Calls Try.prog 64 #[.pointer (some ⟨b, 0, none⟩)] w fun e w' => (at_ + 8 <= n -> e = .returned (.int .i64 (un8 ((bs.drop at_).take 8))) /\ Cur w' b A n cap bs (at_ + 8) br) /\ (n < at_ + 8 -> e = .returned (.int .i64 0) /\ Cur w' b A n cap bs n true) /\ Fr (fun q => q = b) w w' := by
  have HC := Lib.hid h
  obtain ⟨A', c', e, l1, l2, l3⟩ := h.r.form
  simp only [Value.slice.injEq, true_and] at e
  obtain ⟨rfl, rfl⟩ := e
  have hle := h.le
  have HL := Lib.hid l3
  clear h l3
  go_enter Try.func64, Try.ntmps64
  go_wp2_with fail
  refine (left_any HC.out).mono ?_
  rintro e w1 ⟨rfl, d, hw⟩
  have HC1 := Lib.hid (HC.out.drewN d)
  rw [<- hw] at HC1
  have HF1 : Hid (Fr (fun q => q = b) w w1) := Lib.hid (by rw [hw]; exact (Fr.refl _ _).drewN d)
  clear hw
  by_cases h8 : at_ + 8 <= n
  ·have hq : ¬ (((n - at_) / 8 : Nat) : Int) = 0 := by omega
   have hq2 : ((((n - at_) / 8 : Nat) : Int) == 0) = false := by simp; omega
   obtain ⟨q, eq⟩ : ∃ q : Int, (((n - at_) / 8 : Nat) : Int) = q := ⟨_, rfl⟩
   rw [eq] at hq hq2 ⊢
   clear eq
   have c0 := HC1.out.x.cell 0; have c1 := HC1.out.x.cell 1
   simp only [List.getElem?_toArray, List.getElem?_cons_zero, List.getElem?_cons_succ] at c0 c1
   have W1 : IntKind.i64.wrap ((at_ : Int) + 8) = (at_ : Int) + 8 := IntWalk.i64_in _ (by omega)
   obtain ⟨g0, o0, eA, -, -⟩ := HC1.out.r.at (i := at_) (by omega)
   subst eA
   have a0 : (0 : Int) <= (at_ : Int) := Int.natCast_nonneg _
   have a1 : (at_ : Int) <= (at_ : Int) + 8 := by omega
   have a2 : (at_ : Int) + 8 <= (cap : Int) := by omega
   have a3 : ¬ cap = at_ := by omega
   have a4 : ((at_ : Int) + 8 - (at_ : Int)) = 8 := by omega
   have a5 : ((at_ : Int) + 8).toNat = at_ + 8 := by omega
   go_wp2_with fail
   clear hq hq2
   go_big_quiet (fail)
   replace HC1 := Lib.hid (HC1.out.drewN nq)
   replace HF1 := Lib.hid (HF1.out.drewN nq)
   clear c0 c1
   generalize w1.drewN nq = W3 at *
   have c0 := HC1.out.x.cell 0; have c1 := HC1.out.x.cell 1
   simp only [List.getElem?_toArray, List.getElem?_cons_zero, List.getElem?_cons_succ] at c0 c1
   go_wp2_with fail
   go_big_quiet (fail)
   replace HC1 := Lib.hid (HC1.out.drewN nq)
   replace HF1 := Lib.hid (HF1.out.drewN nq)
   clear c0 c1 a1 a2 a3 a4 a5 W1
   generalize W3.drewN nq = W4 at *
   have hdl : ((bs.drop at_).take 8).length = 8 := by rw [List.length_take, List.length_drop, HL.out]; omega
   have hdg : ∀ i, i < 8 -> ((bs.drop at_).take 8).getD i 0 = bs.getD (at_ + i) 0 := fun i hi => by
    simp [List.getD_eq_getElem?_getD, List.getElem?_take, hi]
   obtain ⟨e8, he8⟩ : ∃ e, (bs.drop at_).take 8 = e := ⟨_, rfl⟩
   rw [he8] at hdl hdg
   have HDL := Lib.hid hdl; have HDG := Lib.hid hdg; have HE8 := Lib.hid he8
   clear he8 hdl hdg
   go_wp2_with fail
   go_loopw [3, 28] (fun v3 vi wr => ∃ i : Nat, vi = .int .i64 (i : Int) /\ i <= 8 /\ v3 = .int .i64 (un8 (e8.take i)) /\ Hid (wr = W4)) (fun _ vi _ => 8 - (intOf vi).toNat)
   case atStart => exact ⟨0, rfl, Nat.zero_le _, rfl, Lib.hid rfl⟩
   case round =>
    obtain ⟨i, rfl, hi, rfl, HW⟩ := hrel
    have i0 : (0 : Int) <= (i : Int) := Int.natCast_nonneg _
    by_cases hlt : i < 8
    ·have i1 : (i : Int) < 8 := by omega
     have t1 : decide (i < 8) = true := by simpa using hlt
     have t2 : decide (8 <= i) = false := by simpa using hlt
     have hh := HC1.out.r
     rw [<- HW.out] at hh
     obtain ⟨g, o, e, cx, hy⟩ := hh.at (i := at_ + i) (by omega)
     simp only [Option.some.injEq, Addr.mk.injEq, and_true] at e
     obtain ⟨rfl, rfl⟩ := e
     rw [<- HDG.out i hlt] at cx hy
     rw [show o0 + (at_ + i) = o0 + at_ + i by omega] at cx
     have hs := un8_take_succ (l := e8) (i := i) (by rw [HDL.out]; exact hlt)
     generalize e8.getD i 0 = y at *
     generalize un8 (e8.take i) = s at *
     obtain ⟨y0, y1⟩ := hy
     obtain ⟨S, hS⟩ : ∃ S, IntKind.i64.wrap (s * 256) = S := ⟨_, rfl⟩
     have hS2 : S % 256 = 0 := by rw [<- hS, IntKind.wrap_i64]; omega
     have W0 : IntKind.i64.wrap y = y := IntWalk.i64_in _ (by omega)
     have W2 : bits .or .i64 S y = un8 (e8.take (i + 1)) := by
      rw [i64_or_low hS2 y0 y1, hs, <- hS, IntKind.wrap_i64, IntKind.wrap_i64]
      unfold wr64
      omega
     clear hs hh hS2
     go_wp2_with fail
     exact ⟨⟨i + 1, by go_num, by omega, rfl, HW⟩, by simp [intOf]; omega⟩
    ·obtain rfl : i = 8 := by omega
     have HE : Hid (un8 (e8.take 8) = un8 e8) := Lib.hid (by rw [List.take_of_length_le (by rw [HDL.out]; exact Nat.le_refl _)])
     have hc := HC1.out
     have hf := HF1.out
     rw [<- HW.out] at hc hf
     have c0 := hc.x.cell 0; have c1 := hc.x.cell 1; have f1 := hc.x.frozen 1
     simp only [List.getElem?_toArray, List.getElem?_cons_zero, List.getElem?_cons_succ] at c0 c1
     have HC5 := Lib.hid (hc.set_ (k := at_ + 8) h8)
     have HF5 := Lib.hid (hf.set_ (p := ⟨b, 1, none⟩) (.inl rfl) (.int .i64 ((at_ + 8 : Nat) : Int)))
     clear hc hf
     go_wp2_with fail
     go_ret
     exact ⟨fun _ => ⟨by rw [HE8.out, <- HE.out]; rfl, HC5.out⟩, fun e => absurd h8 (by omega), HF5.out⟩
  ·have hq : (((n - at_) / 8 : Nat) : Int) = 0 := by omega
   rw [hq]
   clear hq
   go_wp2_with fail
   refine (fail_any HC1.out).mono ?_
   rintro e w2 ⟨⟨v, rfl⟩, hc, hf⟩
   have HC2 := Lib.hid hc
   have HF2 := Lib.hid (HF1.out.trans hf)
   clear hc hf
   go_wp2_with fail
   go_ret
   exact ⟨fun e => absurd e h8, fun _ => ⟨rfl, HC2.out⟩, HF2.out⟩
end Go.Proofs.Ytjkcglgkdclidaa
namespace Go.Proofs.Ytjkcglgkdclidaa
open Go Go.RowKit Go.Proofs
def RdSt (w : World) (b : Nat) (A : Option Addr) (n cap : Nat) (bs : List Int) (rest : Option (List Int)) : Prop :=
 ∃ at_ br, Cur w b A n cap bs at_ br /\ (rest = none -> br = true /\ at_ = n) /\ (∀ L, rest = some L -> br = false /\ at_ % 8 = 0 /\ L = numsK ((n - at_) / 8) (bs.drop at_))
def takeN : Option (List Int) -> Int × Option (List Int)
 | some (x :: L) => (x, some L)
 | _ => (0, none)
def leftN : Option (List Int) -> Nat
 | some L => L.length
 | none => 0
def manyN (rest : Option (List Int)) : Int × Option (List Int) :=
 if 0 <= (takeN rest).1 /\ (takeN rest).1 <= (leftN (takeN rest).2 : Int) then takeN rest else (0, none)
section
variable {w w' : World} {b : Nat} {A : Option Addr} {n cap : Nat} {bs : List Int} {rest : Option (List Int)}
theorem RdSt.below (h : RdSt w b A n cap bs rest) (hb : Below w.heap.size w w') : RdSt w' b A n cap bs rest := by
 obtain ⟨a, br, h1, h2⟩ := h
 exact ⟨a, br, h1.below hb, h2⟩
theorem RdSt.left (h : RdSt w b A n cap bs rest) {at_ : Nat} {br : Bool} (hc : Cur w b A n cap bs at_ br) : (n - at_) / 8 = leftN rest := by
 obtain ⟨a, br', h1, h2, h3⟩ := h
 have e := h1.x.cell 1
 rw [hc.x.cell 1] at e
 have ea : at_ = a := by
  simp at e
  omega
 subst ea
 cases rest with
 | none => have := (h2 rfl).2; subst this; simp [leftN]
 | some L => have := (h3 L rfl).2.2; rw [this]; simp [leftN, numsK_len]
end
theorem rtake_any {w : World} {b : Nat} {A : Option Addr} {n cap : Nat} {bs : List Int} {rest : Option (List Int)} (h : RdSt w b A n cap bs rest) :
  Calls Try.prog 64 #[.pointer (some ⟨b, 0, none⟩)] w fun e w' => e = .returned (.int .i64 (takeN rest).1) /\ RdSt w' b A n cap bs (takeN rest).2 /\ Fr (fun q => q = b) w w' := by
  obtain ⟨a, br, h1, h2, h3⟩ := h
  refine (ctake_any h1).mono ?_
  rintro e w' ⟨hyes, hno, hf⟩
  have hle := h1.le
  cases rest with
  | none =>
    obtain ⟨rfl, rfl⟩ := h2 rfl
    obtain ⟨rfl, hc⟩ := hno (by omega)
    exact ⟨rfl, ⟨a, true, hc, fun _ => ⟨rfl, rfl⟩, fun L e => by cases e⟩, hf⟩
  | some L =>
    obtain ⟨rfl, h8, hL⟩ := h3 L rfl
    by_cases h9 : a + 8 <= n
    ·obtain ⟨rfl, hc⟩ := hyes h9
     obtain ⟨k, hk⟩ : ∃ k, (n - a) / 8 = k + 1 := ⟨(n - a) / 8 - 1, by omega⟩
     rw [hk] at hL
     simp only [numsK] at hL
     subst hL
     refine ⟨rfl, ⟨a + 8, false, hc, (fun e => by cases e), fun L e => ⟨rfl, by omega, ?_⟩⟩, hf⟩
     simp only [takeN, Option.some.injEq] at e
     rw [<- e, show (n - (a + 8)) / 8 = k by omega, List.drop_drop]
    ·obtain ⟨rfl, hc⟩ := hno (by omega)
     have e0 : (n - a) / 8 = 0 := by omega
     rw [e0] at hL
     simp only [numsK] at hL
     subst hL
     exact ⟨rfl, ⟨n, true, hc, fun _ => ⟨rfl, rfl⟩, fun L e => by cases e⟩, hf⟩
theorem many_any {w : World} {b : Nat} {A : Option Addr} {n cap : Nat} {bs : List Int} {rest : Option (List Int)} (h : RdSt w b A n cap bs rest) :
  Calls Try.prog 66 #[.pointer (some ⟨b, 0, none⟩)] w fun e w' => e = .returned (.int .i64 (manyN rest).1) /\ RdSt w' b A n cap bs (manyN rest).2 /\ Fr (fun q => q = b) w w' := by
  have HR := Lib.hid h
  clear h
  go_enter Try.func66, Try.ntmps66
  go_wp2_with fail
  refine (rtake_any HR.out).mono ?_
  rintro e w1 ⟨rfl, hr, hf⟩
  have HR1 := Lib.hid hr; have HF1 := Lib.hid hf
  obtain ⟨x, hx⟩ : ∃ x, (takeN rest).1 = x := ⟨_, rfl⟩
  obtain ⟨r1, hr1⟩ : ∃ r, (takeN rest).2 = r := ⟨_, rfl⟩
  rw [hr1] at HR1
  rw [hx]
  have HX := Lib.hid hx; have HRR := Lib.hid hr1
  clear hr hf hx hr1
  go_wp2_with fail
  obtain ⟨a, br, hc, h2, h3⟩ := HR1.out
  have hlf := HR1.out.left hc
  refine (left_any hc).mono ?_
  rintro e w2 ⟨rfl, d, hw⟩
  have hrd : RdSt w2 b A n cap bs r1 := by rw [hw]; exact ⟨a, br, hc.drewN d, h2, h3⟩
  have hf2 : Fr (fun q => q = b) w w2 := by rw [hw]; exact HF1.out.drewN d
  have HR2 := Lib.hid hrd; have HF2 := Lib.hid hf2
  rw [hlf]
  obtain ⟨q, hq⟩ : ∃ q, leftN r1 = q := ⟨_, rfl⟩
  rw [hq]
  have HQ := Lib.hid hq
  clear hc h2 h3 hlf hw hrd hf2 hq HR1 HF1
  go_wp2_with fail
  refine (twithin_any 0 (q : Int) (readsI_one w2 x)).mono ?_
  rintro e w3 ⟨rfl, hw⟩
  have hbl : Below w2.heap.size w2 w3 := by rw [hw]; exact (Below.refl _ _).alloc (Nat.le_refl _) _
  have HR3 := Lib.hid (HR2.out.below hbl)
  have HF3 : Hid (Fr (fun q => q = b) w w3) := Lib.hid (by rw [hw]; exact HF2.out.alloc _)
  have hib := inB_iff (lo := 0) (hi := (q : Int)) (l := [x])
  have hone : (∀ z ∈ [x], 0 <= z /\ z <= (q : Int)) ↔ (0 <= x /\ x <= (q : Int)) := by simp
  rw [hone] at hib
  have hmany : manyN rest = if 0 <= x /\ x <= (q : Int) then (x, r1) else (0, none) := by
   unfold manyN
   rw [HX.out, HRR.out, HQ.out]
   split
   ·rw [<- HX.out, <- HRR.out]
   ·rfl
  clear hw hbl hone HR2 HF2
  cases hb : inB 0 (q : Int) [x] with
  | false =>
    have hn : ¬ (0 <= x /\ x <= (q : Int)) := fun e => by have := hib.2 e; rw [hb] at this; cases this
    rw [if_neg hn] at hmany
    have HM := Lib.hid hmany
    clear hib hb hn hmany
    obtain ⟨a, br, hc, -⟩ := HR3.out
    go_wp2_with fail
    refine (fail_any hc).mono ?_
    rintro e w4 ⟨⟨v, rfl⟩, hc4, hf4⟩
    have HR4 : Hid (RdSt w4 b A n cap bs none) := Lib.hid ⟨n, true, hc4, fun _ => ⟨rfl, rfl⟩, fun L e => by cases e⟩
    have HF4 := Lib.hid (HF3.out.trans hf4)
    clear hc hc4 hf4
    go_wp2_with fail
    go_ret
    rw [HM.out]
    exact ⟨rfl, HR4.out, HF4.out⟩
  | true =>
    have hn := hib.1 hb
    rw [if_pos hn] at hmany
    have HM := Lib.hid hmany
    clear hib hb hn hmany
    go_wp2_with fail
    go_ret
    rw [HM.out]
    exact ⟨rfl, HR3.out, HF3.out⟩
end Go.Proofs.Ytjkcglgkdclidaa
