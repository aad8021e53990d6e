/- Contracts of syn's writing of sets. What syn's sets mean: contracts of sets by themselves, of nots. -/
import Derived.Test.YtalgnnidhnhciaaGreatDoorUSynM
import Derived.Test.YtalgnnidhnhciaaGreatDoorUSynMa
set_option linter.unusedVariables false
set_option linter.unusedSimpArgs false
set_option maxRecDepth 100000
set_option maxHeartbeats 8000000
namespace Go.Proofs.YtalgnnidhnhciaaGreatDoor
open Go Go.RowKit Go.Proofs
theorem TreeV.five_ {w : World} {S : Nat -> Prop} {v : Value} {k0 lo0 hi0 wt0 : Int} {nm0 : Bs} {l0 : List Tree} (h : TreeV false w S v (.mk k0 lo0 hi0 wt0 nm0 l0)) :
  ∃ (nm : ByteArray) (A : Option Addr) (n c : Nat), v = .agg #[.int .i64 k0, .int .i64 lo0, .int .i64 hi0, .string nm, .slice A n c] /\ nm.data.toList = nm0 /\ KidsV false w S A n c l0 := by
  obtain ⟨s, A, n, c, h1, h2, h3, h4, h5, h6, h7, h8⟩ := h
  exact ⟨s, A, n, c, h1, h2, ⟨h4, h5, h6, h7, h8⟩⟩
theorem childC_ok (w : World) (S : Nat -> Prop) (b o n c : Nat) (l : List Tree) (i : Nat) (hi : i < l.length) (h : KidsV false w S (some ⟨b, o, none⟩) n c l) (I : Int) (hI : (i : Int) = I) (hn9 : n <= 1000) :
  Calls Tryz.prog 57 #[.slice (some ⟨b, o, none⟩) n c, .int .i64 I] w fun e w' => ∃ v, e = .returned v /\ TreeV false w' S v l[i] /\ Below w.heap.size w w' := by
  subst hI
  obtain ⟨h1, h2, h3, h4, h5⟩ := h
  obtain ⟨hSb, hts⟩ := h5 b o rfl (by omega)
  obtain ⟨k, lo, hi', wt, nm, A', n', c', hc, ht⟩ := (hts.at_ i hi).value
  have cc : ∀ j v, [Value.int .i64 k, .int .i64 lo, .int .i64 hi', .string nm, .slice A' n' c'][j]? = some v -> w.cell? ⟨b, o + i * 5 + j, none⟩ = some v := fun j v hv => hc j v hv
  have v0 := cc 0 _ rfl; have v1 := cc 1 _ rfl; have v2 := cc 2 _ rfl; have v3 := cc 3 _ rfl; have v4 := cc 4 _ rfl
  rw [Nat.add_zero] at v0
  have hlt := World.block_lt_of_cell? w _ v0
  have ht' : ∀ w', Below w.heap.size w w' -> TreeV false w' S (.agg #[.int .i64 k, .int .i64 lo, .int .i64 hi', .string nm, .slice A' n' c']) l[i] := fun w' hb => ht.keep (fun _ h => h) (fun g _ j x hx => by rw [hb.cell (p := ⟨g, j, none⟩) (World.block_lt_of_cell? w _ hx)]; exact hx)
  have HT := Lib.hid ht'
  have i0 : (0 : Int) <= (i : Int) := Int.natCast_nonneg _
  have i1 : (i : Int) < (n : Int) := by omega
  unfold maxLen at h3
  clear hc ht ht' cc hts h5 h4
  go_enter Tryz.func57, Tryz.ntmps57
  go_wp2_with fail
  refine bodyPost_ret (v := .agg #[.int .i64 k, .int .i64 lo, .int .i64 hi', .string nm, .slice A' n' c']) (by simp [results, Tryz.results57, go_sem]) rfl ?_
  have hb : Below w.heap.size w (w.alloc (.cells #[.int .i64 k, .int .i64 lo, .int .i64 hi', .string nm, .slice A' n' c'] 35)) := (Below.refl _ _).alloc (Nat.le_refl _) _
  exact ⟨_, rfl, HT.out _ hb, hb⟩
def CodeOk (n : Nat) : Prop := ∀ w : World, TabD w -> Calls Tryz.prog 130 #[.int .i64 n] w fun e w' => e = .returned (.string ⟨(hexDigits n).toArray⟩) /\ Below w.heap.size w w'
def Cls.Codes : Cls -> Prop
 | .range lo hi => CodeOk lo /\ CodeOk hi
 | .name _ => True
 | .any_ => True
 | .not_ c => c.Codes
 | .or_ a b => a.Codes /\ b.Codes
 | .and_ a b => a.Codes /\ b.Codes
 | .less a b => a.Codes /\ b.Codes
def CSpec (f : Nat) (p : Cls) (t : Bs) : Prop :=
 ∀ (B b : Nat) (l : Bs) (w : World) (v : Value), TreeV false w (fun g => g < B) v p.tree -> BldW B b l w -> l.length + t.length <= 1000000000 -> B <= w.heap.size -> Calls Tryz.prog f #[.pointer (some ⟨b, 0, none⟩), v] w (WEnd B b (l ++ t) w)
theorem Cls.kind_atom (p : Cls) : (p.atom = true -> p.tree.kind = 2 \/ p.tree.kind = 3 \/ p.tree.kind = 1) /\ (p.atom = false -> p.tree.kind ≠ 2 /\ p.tree.kind ≠ 3 /\ p.tree.kind ≠ 1) := by
 cases p <;> simp [Cls.atom, Cls.tree, Tree.kind, cRange, cName, cAny, cNot, cTwo]
theorem TreeV.kindedC {w : World} {S : Nat -> Prop} {v : Value} {t : Tree} (h : TreeV false w S v t) : ∃ (k lo hi : Int) (nm : ByteArray) (A : Option Addr) (n c : Nat), v = .agg #[.int .i64 k, .int .i64 lo, .int .i64 hi, .string nm, .slice A n c] /\ k = t.kind := by
 cases t
 obtain ⟨s, A, n, c, e, _⟩ := h
 exact ⟨_, _, _, s, A, n, c, e, rfl⟩
theorem classWithin_ok (p : Cls) (hr : CSpec 85 p p.text) : CSpec 108 p (within_ p.atom p.text) := by
 intro B b l w v hT h hlen hBw
 have hlt := h.lt
 obtain ⟨hk1, hk2⟩ := p.kind_atom
 obtain ⟨k, lo, hi, nm, A, n, c, rfl, hk⟩ := hT.kindedC
 rw [<- hk] at hk1 hk2
 clear hk
 have hbox := Blk.new w 35 #[.int .i64 k, .int .i64 lo, .int .i64 hi, .string nm, .slice A n c]
 have hF0 := (WFr.refl B b w).alloc hBw (.cells #[.int .i64 k, .int .i64 lo, .int .i64 hi, .string nm, .slice A n c] 35)
 have hT0 := hT.fr hF0.below
 have h0 := h.alloc (.cells #[.int .i64 k, .int .i64 lo, .int .i64 hi, .string nm, .slice A n c] 35)
 have hz : w.heap.size < (w.alloc (.cells #[.int .i64 k, .int .i64 lo, .int .i64 hi, .string nm, .slice A n c] 35)).heap.size := by simp
 cases hat : p.atom with
 | true =>
   have hk := hk1 hat
   have e : within_ true p.text = p.text := rfl
   rw [hat, e] at hlen
   rw [e]
   have hc := hr B b l _ _ hT0 h0 hlen (by omega)
   have HC := Lib.hid hc; have HF := Lib.hid hF0
   clear hc hF0 hT0 h0 hT h hr hbox hk1 hk2 hat e
   have fin : ∀ w1, WEnd B b (l ++ p.text) (w.alloc (.cells #[.int .i64 k, .int .i64 lo, .int .i64 hi, .string nm, .slice A n c] 35)) (.returned (.tuple #[])) w1 -> WEnd B b (l ++ p.text) w (.returned (.tuple #[])) w1 := fun w1 q => ⟨rfl, q.2.1, HF.out.trans q.2.2⟩
   have FIN := Lib.hid fin; clear fin
   have hd : ∃ q2 q3 q1 : Bool, (k == 2) = q2 /\ (k == 3) = q3 /\ (k == 1) = q1 := ⟨_, _, _, rfl, rfl, rfl⟩
   rcases hk with hk | hk | hk
   all_goals (
    subst hk
    go_enter Tryz.func108, Tryz.ntmps108
    go_wp2_with fail
    refine HC.out.mono ?_
    rintro e w1 ⟨rfl, q1, q2⟩
    have Q := Lib.hid (FIN.out w1 ⟨rfl, q1, q2⟩)
    clear q1 q2
    go_wp2_with fail
    go_end0
    exact Q.out)
 | false =>
   obtain ⟨k2, k3, k1⟩ := hk2 hat
   have e : within_ false p.text = 40 :: (p.text ++ [41]) := rfl
   rw [hat, e] at hlen
   rw [e]
   simp only [List.length_cons, List.length_append, List.length_nil] at hlen
   have q2 : (k == 2) = false := by simpa using k2
   have q3 : (k == 3) = false := by simpa using k3
   have q1 : (k == 1) = false := by simpa using k1
   have hc := one_new (⟨#[40]⟩ : ByteArray) h0 [40] rfl (by simp; omega) (w.heap.size + 1) (by simp)
   have HC := Lib.hid hc; have HF := Lib.hid hF0; have HT := Lib.hid hT0; have HBX := Lib.hid hbox; have HR := Lib.hid hr
   clear hc hF0 hT0 h0 hT h hr hbox hk1 hk2 hat k1 k2 k3 e
   go_enter Tryz.func108, Tryz.ntmps108
   go_wp2_with fail
   refine HC.out.mono ?_
   rintro e w1 ⟨rfl, h1, hF1⟩
   have hbx := hF1.keeps w.heap.size _ _ HBX.out (by omega) (by decide)
   have v0 := Blk.cell hbx 0; have v1 := Blk.cell hbx 1; have v2 := Blk.cell hbx 2; have v3 := Blk.cell hbx 3; have v4 := Blk.cell hbx 4
   simp only [List.getElem?_toArray, List.getElem?_cons_zero, List.getElem?_cons_succ] at v0 v1 v2 v3 v4
   have hr1 := HR.out B b (l ++ [40]) w1 _ (HT.out.fr hF1.below) h1 (by simp; omega) (by have := hF1.grows; omega)
   have HR1 := Lib.hid hr1; have HF1 := Lib.hid (HF.out.trans hF1)
   clear hr1 h1 hF1 hbx HC HF
   go_wp2_with fail
   refine HR1.out.mono ?_
   rintro e w2 ⟨rfl, h2, hF2⟩
   have hc := one_new (⟨#[41]⟩ : ByteArray) h2 [41] rfl (by simp; omega) _ rfl
   have HC := Lib.hid hc; have HF2 := Lib.hid (HF1.out.trans hF2)
   clear hc h2 hF2 HR1 HF1 v0 v1 v2 v3 v4
   go_wp2_with fail
   refine HC.out.mono ?_
   rintro e w3 ⟨rfl, h3, hF3⟩
   have H3 := Lib.hid h3; have HF3 := Lib.hid (HF2.out.trans hF3)
   clear h3 hF3
   go_wp2_with fail
   go_end0
   refine ⟨rfl, ?_, HF3.out⟩
   have := H3.out
   simpa using this
theorem twoClasses_ok (p q : Cls) (hp : CSpec 108 p (within_ p.atom p.text)) (hq : CSpec 108 q (within_ q.atom q.text)) (B b : Nat) (l : Bs) (w : World) (A : Option Addr) (n c : Nat) (s : ByteArray) (t : Bs) (hs : s.data.toList = t)
  (hK : KidsV false w (fun g => g < B) A n c [p.tree, q.tree]) (hA : ∃ g o, A = some ⟨g, o, none⟩) (h : BldW B b l w) (hlen : l.length + (within_ p.atom p.text ++ (t ++ within_ q.atom q.text)).length <= 1000000000) (hBw : B <= w.heap.size) :
  Calls Tryz.prog 109 #[.pointer (some ⟨b, 0, none⟩), .slice A n c, .string s] w (WEnd B b (l ++ (within_ p.atom p.text ++ (t ++ within_ q.atom q.text))) w) := by
  have hlt := h.lt
  obtain ⟨g, o, rfl⟩ := hA
  obtain rfl : n = 2 := by have := hK.1; simpa using this.symm
  obtain ⟨P, hP⟩ : ∃ P, within_ p.atom p.text = P := ⟨_, rfl⟩
  obtain ⟨R, hR⟩ : ∃ R, within_ q.atom q.text = R := ⟨_, rfl⟩
  rw [hP, hR] at hlen ⊢
  rw [hP] at hp
  rw [hR] at hq
  simp only [List.length_append] at hlen
  have hc := childC_ok w (fun g => g < B) g o 2 c [p.tree, q.tree] 0 (by simp) hK 0 rfl (by omega)
  have HC := Lib.hid hc; have HK := Lib.hid hK; have HP := Lib.hid hp; have HQ := Lib.hid hq; have H0 := Lib.hid h
  clear hc hK hp hq h hP hR
  go_enter Tryz.func109, Tryz.ntmps109
  go_wp2_with fail
  refine HC.out.mono ?_
  rintro e w1 ⟨v, rfl, hv, hb1⟩
  have hF1 := (WFr.refl B b w).of_below hBw hb1
  have hw := HP.out B b l w1 v hv (H0.out.below hb1) (by omega) (by have := hb1.size; omega)
  have HW := Lib.hid hw; have HF := Lib.hid hF1
  clear hw hF1 hv hb1 HC
  go_wp2_with fail
  refine HW.out.mono ?_
  rintro e w2 ⟨rfl, h2, hF2⟩
  have hc := one_new s h2 t hs (by simp; omega) _ rfl
  have HC := Lib.hid hc; have HF2 := Lib.hid (HF.out.trans hF2)
  clear hc h2 hF2 HW HF
  go_wp2_with fail
  refine HC.out.mono ?_
  rintro e w3 ⟨rfl, h3, hF3⟩
  have hF3' := HF2.out.trans hF3
  have hc := childC_ok w3 (fun g => g < B) g o 2 c [p.tree, q.tree] 1 (by simp) (HK.out.fr hF3'.below) 1 rfl (by omega)
  have HC3 := Lib.hid hc; have H3 := Lib.hid h3; have HF3 := Lib.hid hF3'
  clear hc h3 hF3 hF3' HC HF2
  go_wp2_with fail
  refine HC3.out.mono ?_
  rintro e w4 ⟨v', rfl, hv, hb4⟩
  have hF4 := HF3.out.of_below (by have := HF3.out.grows; omega) hb4
  have hw := HQ.out B b _ w4 v' hv (H3.out.below hb4) (by simp; omega) (by have := hF4.grows; omega)
  have HW := Lib.hid hw; have HF4 := Lib.hid hF4
  clear hw hF4 hv hb4 HC3 HF3
  go_wp2_with fail
  refine HW.out.mono ?_
  rintro e w5 ⟨rfl, h5, hF5⟩
  have H5 := Lib.hid h5; have HF5 := Lib.hid (HF4.out.trans hF5)
  clear h5 hF5
  go_wp2_with fail
  go_end0
  refine ⟨rfl, ?_, HF5.out⟩
  have := H5.out
  simpa using this
theorem span_w (B b : Nat) (l : Bs) (w : World) (x y : Nat) (hx : CodeOk x) (hy : CodeOk y) (h : BldW B b l w) (hlen : l.length + (Cls.range x y).text.length <= 1000000000) (hBw : B <= w.heap.size) :
  Calls Tryz.prog 107 #[.pointer (some ⟨b, 0, none⟩), .int .i64 x, .int .i64 y] w (WEnd B b (l ++ (Cls.range x y).text) w) := by
  have hlt := h.lt
  have hxw := hx w h.tab
  have htx : (Cls.range x y).text = (85 :: 43 :: hexDigits x) ++ (if x = y then [] else 46 :: 46 :: 85 :: 43 :: hexDigits y) := by
   unfold Cls.text; simp
  rw [htx, List.length_append] at hlen
  rw [htx]
  obtain ⟨X, hX⟩ : ∃ X, hexDigits x = X := ⟨_, rfl⟩
  rw [hX] at hxw hlen ⊢
  have hcx : catS [⟨#[85, 43]⟩, ⟨X.toArray⟩] = 85 :: 43 :: X := by simp [catS]
  by_cases he : x = y
  ·have q : ((x : Int) != (y : Int)) = false := by simp; omega
   rw [if_pos he] at hlen ⊢
   rw [List.append_nil]
   have hc := fun (W : World) (hW : BldW B b l W) => all_new B b l [⟨#[85, 43]⟩, ⟨X.toArray⟩] #[.string ⟨#[85, 43]⟩, .string ⟨X.toArray⟩] rfl 2 rfl W hW (by rw [hcx]; simp at hlen ⊢; omega) (by omega) _ hcx _ rfl
   have HXW := Lib.hid hxw; have HC := Lib.hid hc; have H0 := Lib.hid h
   clear hxw hc h hx hy hX hlen hcx htx he
   go_enter Tryz.func107, Tryz.ntmps107
   go_wp2_with fail
   refine HXW.out.mono ?_
   rintro e w1 ⟨rfl, hb1⟩
   have hF1 := (WFr.refl B b w).of_below hBw hb1
   have hca := HC.out w1 (H0.out.below hb1)
   have HCA := Lib.hid hca; have HF1 := Lib.hid hF1; clear hca hF1 hb1
   go_wp2_with fail
   refine HCA.out.mono ?_
   rintro e w2 ⟨rfl, h2, hF2⟩
   have H2 := Lib.hid h2; have HF2 := Lib.hid (HF1.out.trans hF2); clear h2 hF2
   go_wp2_with fail
   go_end0
   exact ⟨rfl, H2.out, HF2.out⟩
  ·have q : ((x : Int) != (y : Int)) = true := by simp; omega
   rw [if_neg he] at hlen ⊢
   obtain ⟨Y, hY⟩ : ∃ Y, hexDigits y = Y := ⟨_, rfl⟩
   have hyw := fun (W : World) (hW : TabD W) => hy W hW
   unfold CodeOk at hy
   rw [hY] at hyw hlen ⊢
   have hcy : catS [⟨#[46, 46, 85, 43]⟩, ⟨Y.toArray⟩] = 46 :: 46 :: 85 :: 43 :: Y := by simp [catS]
   simp only [List.length_cons] at hlen
   have hc := fun (W : World) (hW : BldW B b l W) => all_new B b l [⟨#[85, 43]⟩, ⟨X.toArray⟩] #[.string ⟨#[85, 43]⟩, .string ⟨X.toArray⟩] rfl 2 rfl W hW (by rw [hcx]; simp only [List.length_cons]; omega) (by omega) _ hcx _ rfl
   have hc2 := fun (W : World) (hW : BldW B b (l ++ (85 :: 43 :: X)) W) => all_new B b (l ++ (85 :: 43 :: X)) [⟨#[46, 46, 85, 43]⟩, ⟨Y.toArray⟩] #[.string ⟨#[46, 46, 85, 43]⟩, .string ⟨Y.toArray⟩] rfl 2 rfl W hW (by rw [hcy]; simp only [List.length_cons, List.length_append]; omega) (by omega) _ hcy _ rfl
   have HXW := Lib.hid hxw; have HYW := Lib.hid hyw; have HC := Lib.hid hc; have HC2 := Lib.hid hc2; have H0 := Lib.hid h
   clear hxw hyw hc hc2 h hx hy hX hY hlen hcx hcy htx he
   go_enter Tryz.func107, Tryz.ntmps107
   go_wp2_with fail
   refine HXW.out.mono ?_
   rintro e w1 ⟨rfl, hb1⟩
   have hF1 := (WFr.refl B b w).of_below hBw hb1
   have hca := HC.out w1 (H0.out.below hb1)
   have HCA := Lib.hid hca; have HF1 := Lib.hid hF1; clear hca hF1 hb1
   go_wp2_with fail
   refine HCA.out.mono ?_
   rintro e w2 ⟨rfl, h2, hF2⟩
   have H2 := Lib.hid h2; have HF2 := Lib.hid (HF1.out.trans hF2); clear h2 hF2
   go_wp2_with fail
   refine (HYW.out _ H2.out.tab).mono ?_
   rintro e w3 ⟨rfl, hb3⟩
   have hF3 := HF2.out.of_below (by have := HF2.out.grows; omega) hb3
   have hca := HC2.out w3 (H2.out.below hb3)
   have HCA3 := Lib.hid hca; have HF3 := Lib.hid hF3; clear hca hF3 hb3
   go_wp2_with fail
   refine HCA3.out.mono ?_
   rintro e w4 ⟨rfl, h4, hF4⟩
   have H4 := Lib.hid h4; have HF4 := Lib.hid (HF3.out.trans hF4); clear h4 hF4
   go_wp2_with fail
   go_end0
   refine ⟨rfl, ?_, HF4.out⟩
   have := H4.out
   simpa using this
theorem class_leaf (p : Cls) (hp : (∃ x y, p = .range x y /\ CodeOk x /\ CodeOk y) \/ p = .any_ \/ ∃ s, p = .name s) : CSpec 85 p p.text := by
 intro B b l w v hT h hlen hBw
 have hlt := h.lt
 rcases hp with ⟨x, y, rfl, hx, hy⟩ | rfl | ⟨s, rfl⟩
 ·obtain ⟨nm, A, n, c, rfl, hnm, hk⟩ := hT.five_
  have hF0 := (WFr.refl B b w).alloc hBw (.cells #[.int .i64 1, .int .i64 x, .int .i64 y, .string nm, .slice A n c] 35)
  have hc := span_w B b l _ x y hx hy (h.alloc (.cells #[.int .i64 1, .int .i64 x, .int .i64 y, .string nm, .slice A n c] 35)) hlen (by simp; omega)
  have HC := Lib.hid hc; have HF := Lib.hid hF0; clear hc hF0 h hk hT hx hy
  go_enter Tryz.func85, Tryz.ntmps85
  go_wp2_with fail
  refine HC.out.mono ?_
  rintro e w1 ⟨rfl, h1, hF1⟩
  have H1 := Lib.hid h1; have HF1 := Lib.hid (HF.out.trans hF1); clear h1 hF1
  go_wp2_with fail
  go_end0
  exact ⟨rfl, H1.out, HF1.out⟩
 ·obtain ⟨nm, A, n, c, rfl, hnm, hk⟩ := hT.five_
  have hF0 := (WFr.refl B b w).alloc hBw (.cells #[.int .i64 3, .int .i64 0, .int .i64 0, .string nm, .slice A n c] 35)
  have hc := one_new (⟨#[97, 110, 121]⟩ : ByteArray) (h.alloc (.cells #[.int .i64 3, .int .i64 0, .int .i64 0, .string nm, .slice A n c] 35)) _ rfl hlen (w.heap.size + 1) (by simp)
  have HC := Lib.hid hc; have HF := Lib.hid hF0; clear hc hF0 h hk hT
  go_enter Tryz.func85, Tryz.ntmps85
  go_wp2_with fail
  refine HC.out.mono ?_
  rintro e w1 ⟨rfl, h1, hF1⟩
  have H1 := Lib.hid h1; have HF1 := Lib.hid (HF.out.trans hF1); clear h1 hF1
  go_wp2_with fail
  go_end0
  exact ⟨rfl, H1.out, HF1.out⟩
 ·obtain ⟨nm, A, n, c, rfl, hnm, hk⟩ := hT.five_
  have e : (Cls.name s).text = nm.data.toList := hnm.symm
  rw [e] at hlen ⊢
  have hF0 := (WFr.refl B b w).alloc hBw (.cells #[.int .i64 2, .int .i64 0, .int .i64 0, .string nm, .slice A n c] 35)
  have hc := one_new nm (h.alloc (.cells #[.int .i64 2, .int .i64 0, .int .i64 0, .string nm, .slice A n c] 35)) _ rfl hlen (w.heap.size + 1) (by simp)
  have HC := Lib.hid hc; have HF := Lib.hid hF0; clear hc hF0 h hk hT e
  go_enter Tryz.func85, Tryz.ntmps85
  go_wp2_with fail
  refine HC.out.mono ?_
  rintro e w1 ⟨rfl, h1, hF1⟩
  have H1 := Lib.hid h1; have HF1 := Lib.hid (HF.out.trans hF1); clear h1 hF1
  go_wp2_with fail
  go_end0
  exact ⟨rfl, H1.out, HF1.out⟩
theorem class_two (p q : Cls) (K : Int) (s : ByteArray) (hK : (K = 5 /\ s = ⟨#[32, 124, 32]⟩) \/ (K = 6 /\ s = ⟨#[32, 38, 32]⟩) \/ (K = 7 /\ s = ⟨#[32, 45, 32]⟩)) (hp : CSpec 108 p (within_ p.atom p.text)) (hq : CSpec 108 q (within_ q.atom q.text))
  (B b : Nat) (l : Bs) (w : World) (v : Value) (hT : TreeV false w (fun g => g < B) v (.mk K 0 0 0 [] [p.tree, q.tree])) (h : BldW B b l w) (hlen : l.length + (within_ p.atom p.text ++ (s.data.toList ++ within_ q.atom q.text)).length <= 1000000000) (hBw : B <= w.heap.size) :
  Calls Tryz.prog 85 #[.pointer (some ⟨b, 0, none⟩), v] w (WEnd B b (l ++ (within_ p.atom p.text ++ (s.data.toList ++ within_ q.atom q.text))) w) := by
  have hlt := h.lt
  obtain ⟨nm, A, n, c, rfl, hnm, hk⟩ := hT.five_
  obtain rfl : n = 2 := by have := hk.1; simpa using this.symm
  obtain ⟨g, o, rfl⟩ := hk.2.2.2.1.some (by omega)
  have hF0 := (WFr.refl B b w).alloc hBw (.cells #[.int .i64 K, .int .i64 0, .int .i64 0, .string nm, .slice (some ⟨g, o, none⟩) 2 c] 35)
  have hc := twoClasses_ok p q hp hq B b l _ _ 2 c s _ rfl (hk.fr hF0.below) ⟨g, o, rfl⟩ (h.alloc (.cells #[.int .i64 K, .int .i64 0, .int .i64 0, .string nm, .slice (some ⟨g, o, none⟩) 2 c] 35)) hlen (by simp; omega)
  obtain ⟨T, hT'⟩ : ∃ T, within_ p.atom p.text ++ (s.data.toList ++ within_ q.atom q.text) = T := ⟨_, rfl⟩
  rw [hT'] at hc ⊢
  have HC := Lib.hid hc; have HF := Lib.hid hF0; clear hc hF0 h hk hT hp hq hlen hT'
  rcases hK with ⟨rfl, rfl⟩ | ⟨rfl, rfl⟩ | ⟨rfl, rfl⟩
  all_goals (
   go_enter Tryz.func85, Tryz.ntmps85
   go_wp2_with fail
   refine HC.out.mono ?_
   rintro e w1 ⟨rfl, h1, hF1⟩
   have H1 := Lib.hid h1; have HF1 := Lib.hid (HF.out.trans hF1); clear h1 hF1
   go_wp2_with fail
   go_end0
   exact ⟨rfl, H1.out, HF1.out⟩)
theorem class_not (a : Cls) (ha : CSpec 108 a (within_ a.atom a.text)) : CSpec 85 (.not_ a) (33 :: within_ a.atom a.text) := by
 intro B b l w v hT h hlen hBw
 have hlt := h.lt
 obtain ⟨nm, A, n, c, rfl, hnm, hk⟩ := hT.five_
 obtain rfl : n = 1 := by have := hk.1; simpa using this.symm
 obtain ⟨g, o, rfl⟩ := hk.2.2.2.1.some (by omega)
 obtain ⟨P, hP⟩ : ∃ P, within_ a.atom a.text = P := ⟨_, rfl⟩
 rw [hP] at ha hlen ⊢
 simp only [List.length_cons] at hlen
 have hF0 := (WFr.refl B b w).alloc hBw (.cells #[.int .i64 4, .int .i64 0, .int .i64 0, .string nm, .slice (some ⟨g, o, none⟩) 1 c] 35)
 have hbox := Blk.new w 35 #[.int .i64 4, .int .i64 0, .int .i64 0, .string nm, .slice (some ⟨g, o, none⟩) 1 c]
 have hc := one_new (⟨#[33]⟩ : ByteArray) (h.alloc (.cells #[.int .i64 4, .int .i64 0, .int .i64 0, .string nm, .slice (some ⟨g, o, none⟩) 1 c] 35)) [33] rfl (by simp; omega) (w.heap.size + 1) (by simp)
 have HC := Lib.hid hc; have HF := Lib.hid hF0; have HA := Lib.hid ha; have HK := Lib.hid hk; have HBX := Lib.hid hbox
 clear hc hF0 h hk hT ha hP hbox
 go_enter Tryz.func85, Tryz.ntmps85
 go_wp2_with fail
 refine HC.out.mono ?_
 rintro e w1 ⟨rfl, h1, hF1⟩
 have hbx := hF1.keeps w.heap.size _ _ HBX.out (by omega) (by decide)
 have v4 := Blk.cell hbx 4
 simp only [List.getElem?_toArray, List.getElem?_cons_zero, List.getElem?_cons_succ] at v4
 have hF1' := HF.out.trans hF1
 have hch := childC_ok w1 (fun g => g < B) g o 1 c [a.tree] 0 (by simp) (HK.out.fr hF1'.below) 0 rfl (by omega)
 have HCH := Lib.hid hch; have H1 := Lib.hid h1; have HF1 := Lib.hid hF1'
 clear hch h1 hF1 hF1' hbx HC HF
 go_wp2_with fail
 refine HCH.out.mono ?_
 rintro e w2 ⟨v', rfl, hv, hb2⟩
 have hF2 := HF1.out.of_below (by have := HF1.out.grows; omega) hb2
 have hw := HA.out B b _ w2 v' hv (H1.out.below hb2) (by simp; omega) (by have := hF2.grows; omega)
 have HW := Lib.hid hw; have HF2 := Lib.hid hF2
 clear hw hF2 hv hb2 HCH HF1 v4
 go_wp2_with fail
 refine HW.out.mono ?_
 rintro e w3 ⟨rfl, h3, hF3⟩
 have H3 := Lib.hid h3; have HF3 := Lib.hid (HF2.out.trans hF3)
 clear h3 hF3
 go_wp2_with fail
 go_end0
 refine ⟨rfl, ?_, HF3.out⟩
 have := H3.out
 simpa using this
theorem class_w (p : Cls) (hs : p.Codes) : CSpec 85 p p.text := by
 induction p with
 | range x y => exact class_leaf _ (.inl ⟨x, y, rfl, hs.1, hs.2⟩)
 | name s => exact class_leaf _ (.inr (.inr ⟨s, rfl⟩))
 | any_ => exact class_leaf _ (.inr (.inl rfl))
 | not_ a ih => exact class_not a (classWithin_ok a (ih hs))
 | or_ a b iha ihb =>
   intro B bb l w v hT h hlen hBw
   exact class_two a b 5 ⟨#[32, 124, 32]⟩ (.inl ⟨rfl, rfl⟩) (classWithin_ok a (iha hs.1)) (classWithin_ok b (ihb hs.2)) B bb l w v hT h hlen hBw
 | and_ a b iha ihb =>
   intro B bb l w v hT h hlen hBw
   exact class_two a b 6 ⟨#[32, 38, 32]⟩ (.inr (.inl ⟨rfl, rfl⟩)) (classWithin_ok a (iha hs.1)) (classWithin_ok b (ihb hs.2)) B bb l w v hT h hlen hBw
 | less a b iha ihb =>
   intro B bb l w v hT h hlen hBw
   exact class_two a b 7 ⟨#[32, 45, 32]⟩ (.inr (.inr ⟨rfl, rfl⟩)) (classWithin_ok a (iha hs.1)) (classWithin_ok b (ihb hs.2)) B bb l w v hT h hlen hBw
end Go.Proofs.YtalgnnidhnhciaaGreatDoor
namespace Go.Proofs.YtalgnnidhnhciaaGreatDoor
open Go Go.RowKit
def MSpec (D : List Bs) (ss : List Rg) (p : Cls) : Prop :=
 ∀ (w : World) (b : Nat) (v : Value), TreeV false w (fun g => g < w.heap.size) v p.tree -> MeanAt w b D ss -> Calls Tryz.prog 31 #[.pointer (some ⟨b, 0, none⟩), v] w (Tells w (meanC D ss p))
theorem Below.five {B H : Nat} {w W : World} {a1 a2 a3 a4 a5 : Value} (h : Below B w W) (hB : B <= H) : Below B w (fiveAt W H a1 a2 a3 a4 a5) :=
 ((((h.setCell (p := ⟨H, 0, none⟩) hB a1).setCell (p := ⟨H, 1, none⟩) hB a2).setCell (p := ⟨H, 2, none⟩) hB a3).setCell (p := ⟨H, 3, none⟩) hB a4).setCell (p := ⟨H, 4, none⟩) hB a5
theorem m_leaf (D : List Bs) (ss : List Rg) (p : Cls) (hp : (∃ x y, p = .range x y) \/ p = .any_ \/ ∃ s, p = .name s) : MSpec D ss p := by
 intro w b v hT hM
 rcases hp with ⟨x, y, rfl⟩ | rfl | ⟨s, rfl⟩
 ·obtain ⟨nm, A, n, c, rfl, hnm, hk⟩ := hT.five_
  have hb0 : Below w.heap.size w ((w.alloc (.cells #[.int .i64 1, .int .i64 x, .int .i64 y, .string nm, .slice A n c] 35)).alloc (.cells #[.int .i64 x, .int .i64 y] 66)) := ((Below.refl _ _).alloc (Nat.le_refl _) _).alloc (by simp) _
  have hblk := Blk.new (w.alloc (.cells #[.int .i64 1, .int .i64 x, .int .i64 y, .string nm, .slice A n c] 35)) 66 #[.int .i64 x, .int .i64 y]
  have hz : (w.alloc (.cells #[.int .i64 1, .int .i64 x, .int .i64 y, .string nm, .slice A n c] 35)).heap.size = w.heap.size + 1 := by simp
  rw [hz] at hblk
  have hr : ReadsP _ (.slice (some ⟨w.heap.size + 1, 0, none⟩) 1 1) 1 [((x : Int), (y : Int))] := ⟨rfl, _, 1, rfl, Nat.le_refl _, by unfold maxLen; omega, (fun e => by cases e), fun i hi => ⟨w.heap.size + 1, 0, rfl, fun j hj => by
   obtain rfl : j = 0 := by omega
   exact ⟨Blk.cell hblk 0, Blk.cell hblk 1⟩⟩⟩
  have hn := norm_any hr (by omega)
  have HN := Lib.hid hn; have HB := Lib.hid hb0
  clear hn hb0 hblk hr hk hT hM hz
  go_enter Tryz.func31, Tryz.ntmps31
  go_wp2_with fail
  refine HN.out.mono ?_
  rintro e w1 h1
  have h1' := Tells.from_ HB.out h1
  obtain ⟨v, rfl, q⟩ := h1'
  have Q := Lib.hid q; clear q h1
  go_wp2_with fail
  go_ret
  exact ⟨v, rfl, Q.out⟩
 ·obtain ⟨nm, A, n, c, rfl, hnm, hk⟩ := hT.five_
  have hb0 : Below w.heap.size w (w.alloc (.cells #[.int .i64 3, .int .i64 0, .int .i64 0, .string nm, .slice A n c] 35)) := (Below.refl _ _).alloc (Nat.le_refl _) _
  have hn := not_any (ReadsP.nil (w.alloc (.cells #[.int .i64 3, .int .i64 0, .int .i64 0, .string nm, .slice A n c] 35))) (show Rt [] from trivial)
  have HN := Lib.hid hn; have HB := Lib.hid hb0
  clear hn hb0 hk hT hM
  go_enter Tryz.func31, Tryz.ntmps31
  go_wp2_with fail
  refine HN.out.mono ?_
  rintro e w1 h1
  have h1' := Tells.from_ HB.out h1
  obtain ⟨v, rfl, q⟩ := h1'
  have Q := Lib.hid q; clear q h1
  go_wp2_with fail
  go_ret
  exact ⟨v, rfl, Q.out⟩
 ·obtain ⟨nm, A, n, c, rfl, hnm, hk⟩ := hT.five_
  have hb0 : Below w.heap.size w (w.alloc (.cells #[.int .i64 2, .int .i64 0, .int .i64 0, .string nm, .slice A n c] 35)) := (Below.refl _ _).alloc (Nat.le_refl _) _
  have hn := named_any (nm := nm) (hM.below hb0)
  have e0 : meanC D ss (.name s) = meanN D ss nm.data.toList := by rw [hnm]; rfl
  rw [e0]
  have HN := Lib.hid hn; have HB := Lib.hid hb0
  clear hn hb0 hk hT hM e0 hnm
  go_enter Tryz.func31, Tryz.ntmps31
  go_wp2_with fail
  refine HN.out.mono ?_
  rintro e w1 h1
  have h1' := Tells.from_ HB.out h1
  obtain ⟨v, rfl, q⟩ := h1'
  have Q := Lib.hid q; clear q h1
  go_wp2_with fail
  go_ret
  exact ⟨v, rfl, Q.out⟩
theorem m_not (D : List Bs) (ss : List Rg) (hss : RtA ss) (a : Cls) (ha : MSpec D ss a) : MSpec D ss (.not_ a) := by
 intro w b v hT hM
 obtain ⟨nm, A, n, c, rfl, hnm, hk⟩ := hT.five_
 obtain rfl : n = 1 := by have := hk.1; simpa using this.symm
 obtain ⟨g, o, rfl⟩ := hk.2.2.2.1.some (by omega)
 have hb0 : Below w.heap.size w (w.alloc (.cells #[.int .i64 4, .int .i64 0, .int .i64 0, .string nm, .slice (some ⟨g, o, none⟩) 1 c] 35)) := (Below.refl _ _).alloc (Nat.le_refl _) _
 have hch := childC_ok _ (fun g => g < w.heap.size) g o 1 c [a.tree] 0 (by simp) (hk.fr hb0) 0 rfl (by omega)
 have hrt := meanC_rt (D := D) hss a
 have HCH := Lib.hid hch; have HB := Lib.hid hb0; have HM := Lib.hid hM; have HA := Lib.hid ha; have HR := Lib.hid hrt
 clear hch hb0 hM ha hk hT hrt
 go_enter Tryz.func31, Tryz.ntmps31
 go_wp2_with fail
 refine HCH.out.mono ?_
 rintro e w1 ⟨v', rfl, hv, hb1⟩
 have hb1' := HB.out.trans (hb1.mono HB.out.size)
 have hc := HA.out w1 b v' (hv.keep (fun g hg => Nat.lt_of_lt_of_le hg hb1'.size) (fun _ _ _ _ h => h)) (HM.out.below hb1')
 have HC := Lib.hid hc; have HB1 := Lib.hid hb1'
 clear hc hv hb1 hb1' HCH HB HM HA
 go_wp2_with fail
 refine HC.out.mono ?_
 rintro e w2 ⟨v2, rfl, ho, hb2⟩
 have hn := not_any ho.reads HR.out
 have HN := Lib.hid hn; have HB2 := Lib.hid (HB1.out.trans (hb2.mono HB1.out.size))
 clear hn ho hb2 HC HB1
 go_wp2_with fail
 refine HN.out.mono ?_
 rintro e w3 h3
 have h3' := Tells.from_ HB2.out h3
 obtain ⟨v3, rfl, q⟩ := h3'
 have Q := Lib.hid q; clear q h3
 go_wp2_with fail
 go_ret
 exact ⟨v3, rfl, Q.out⟩
structure Two (w : World) (ta tb : Tree) (box : Array Value) (g5 g6 : Nat) (v0 v1 : Array Value) (W : World) : Prop where
 below : Below w.heap.size w W
 l5 : w.heap.size < g5
 l6 : w.heap.size < g6
 ne : g5 ≠ g6
 xb : Blk W w.heap.size 35 box
 x5 : Blk W g5 35 v0
 x6 : Blk W g6 35 v1
 t0 : TreeV false W (fun g => g < w.heap.size) (.agg v0) ta
 t1 : TreeV false W (fun g => g < w.heap.size) (.agg v1) tb
structure TwoPre (w : World) (ta tb : Tree) (box : Array Value) (g5 g6 : Nat) (v0 v1 : Array Value) (W : World) : Prop where
 below : Below w.heap.size w W
 l5 : w.heap.size < g5
 l6 : w.heap.size < g6
 ne : g5 ≠ g6
 xb : Blk W w.heap.size 35 box
 x5 : Blk W g5 35 #[.int .i64 0, .int .i64 0, .int .i64 0, .string ⟨#[]⟩, .slice none 0 0]
 x6 : Blk W g6 35 #[.int .i64 0, .int .i64 0, .int .i64 0, .string ⟨#[]⟩, .slice none 0 0]
 t0 : TreeV false W (fun g => g < w.heap.size) (.agg v0) ta
 t1 : TreeV false W (fun g => g < w.heap.size) (.agg v1) tb
end Go.Proofs.YtalgnnidhnhciaaGreatDoor
