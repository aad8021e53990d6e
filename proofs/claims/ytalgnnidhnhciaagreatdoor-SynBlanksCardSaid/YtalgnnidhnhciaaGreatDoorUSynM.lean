/- Contracts of syn's reading of sets: a range, what stands by itself. Contracts of syn's writing of patterns: what is said behind a part; whole patterns. -/
import Derived.Test.YtalgnnidhnhciaaGreatDoorShort
import Derived.Test.YtalgnnidhnhciaaGreatDoorUSynMa
import Derived.Test.YtalgnnidhnhciaaGreatDoorUSynL
import Derived.Test.YtalgnnidhnhciaaGreatDoorUAny
set_option linter.unusedVariables false
set_option linter.unusedSimpArgs false
set_option maxRecDepth 100000
set_option maxHeartbeats 8000000
namespace Go.Proofs.YtalgnnidhnhciaaGreatDoor
open Go Go.RowKit
attribute [local go_sem] field_sign2 field_sign3
def Rd.st {α : Type} (y : Rd α) : X := match y with | .ok (_, ts) => .ok ts | .error e => .error e
def Reads_ (r : Bool) (w : World) (b : Nat) (s : ByteArray) (y : Rd Tree) (df rl : Value) (dp : Int) (e : Ending) (w' : World) : Prop :=
 ∃ v, e = .returned v /\ HeadV r v /\ (∀ t ts, y = .ok (t, ts) -> TreeV r w' (fun g => w.heap.size <= g) v t) /\ St w' b s y.st df rl dp /\ w.grownBy w' (some b)
def fiveAt (W : World) (H : Nat) (a1 a2 a3 a4 a5 : Value) : World :=
 ((((W.setCell ⟨H, 0, none⟩ a1).setCell ⟨H, 1, none⟩ a2).setCell ⟨H, 2, none⟩ a3).setCell ⟨H, 3, none⟩ a4).setCell ⟨H, 4, none⟩ a5
section
variable {w W : World} {b H : Nat} {s : ByteArray} {x : X} {df rl : Value} {dp : Int} {a1 a2 a3 a4 a5 : Value}
theorem St.five (h : St W b s x df rl dp) (hH : b < H) : St (fiveAt W H a1 a2 a3 a4 a5) b s x df rl dp :=
 ((((h.far (q := ⟨H, 0, none⟩) hH _).far (q := ⟨H, 1, none⟩) hH _).far (q := ⟨H, 2, none⟩) hH _).far (q := ⟨H, 3, none⟩) hH _).far (q := ⟨H, 4, none⟩) hH _
theorem only_five {row : Option Nat} (h : w.grownBy W row) (hH : w.heap.size <= H) : w.grownBy (fiveAt W H a1 a2 a3 a4 a5) row :=
 only_new (only_new (only_new (only_new (only_new h (p := ⟨H, 0, none⟩) hH _) (p := ⟨H, 1, none⟩) hH _) (p := ⟨H, 2, none⟩) hH _) (p := ⟨H, 3, none⟩) hH _) (p := ⟨H, 4, none⟩) hH _
theorem five_cell (b o : Nat) (hne : b ≠ H) : (fiveAt W H a1 a2 a3 a4 a5).cell? ⟨b, o, none⟩ = W.cell? ⟨b, o, none⟩ := five_keep W b H hne o 0 1 2 3 4 a1 a2 a3 a4 a5
theorem TreeV.five {r : Bool} {S S' : Nat -> Prop} {v : Value} {t : Tree} (h : TreeV r W S v t) (hS : ∀ g, S g -> S' g) (hne : ∀ g, S g -> g ≠ H) : TreeV r (fiveAt W H a1 a2 a3 a4 a5) S' v t :=
 h.keep hS (fun g hg i x hx => by rw [five_cell g i (hne g hg)]; exact hx)
theorem NamesB.five {D : List Bs} (h : NamesB W b df D) (hH : ∀ o, W.cell? ⟨H, o, none⟩ = none \/ True) (hk : ∀ g, g ≠ b -> g ≠ H -> True) : True := trivial
theorem Blk.five {t : TypeId} {c1 c2 c3 c4 c5 : Value} (h : Blk W H t #[c1, c2, c3, c4, c5]) : Blk (fiveAt W H a1 a2 a3 a4 a5) H t #[a1, a2, a3, a4, a5] := by
 have := Blk.set_ (Blk.set_ (Blk.set_ (Blk.set_ (Blk.set_ h 0 a1) 1 a2) 2 a3) 3 a4) 4 a5
 simpa [fiveAt] using this
theorem Blk.five_far {t : TypeId} {cs : Array Value} {g : Nat} (h : Blk W g t cs) (hne : g ≠ H) : Blk (fiveAt W H a1 a2 a3 a4 a5) g t cs :=
 Blk.far (Blk.far (Blk.far (Blk.far (Blk.far h (p := ⟨H, 0, none⟩) hne _) (p := ⟨H, 1, none⟩) hne _) (p := ⟨H, 2, none⟩) hne _) (p := ⟨H, 3, none⟩) hne _) (p := ⟨H, 4, none⟩) hne _
end
theorem headV_false (k lo hi : Int) (s : ByteArray) (A : Option Addr) (n c : Nat) : HeadV false (.agg #[.int .i64 k, .int .i64 lo, .int .i64 hi, .string s, .slice A n c]) := ⟨k, lo, hi, 0, s, A, n, c, rfl⟩
def spanG (n : Nat) (t3 : Toks) : Rd Tree := if kd t3 == 260 && Nat.blt (hd t3).n n then .error (1, t3) else (tk 260 t3).give (cRange n (hd t3).n)
def spanF (n : Nat) (t1 : Toks) : Rd Tree := if kd t1 != 46 then .ok (cRange n n, t1) else (nxt t1).into fun t2 => (tk 46 t2).into (spanG n)
theorem span_st {w : World} {b : Nat} {s : ByteArray} {ts : Toks} {df rl : Value} {dp : Int} (h : St w b s (.ok ts) df rl dp) (hk : kd ts = 260) :
  Calls Tryz.prog 197 #[.pointer (some ⟨b, 0, none⟩)] w (Reads_ false w b s (spanR ts) df rl dp) := by
  have hblt := h.blt
  have htk := take_y (h.alloc (.cells #[.int .i64 0, .int .i64 0, .int .i64 0, .string ⟨#[]⟩, .slice none 0 0] 35)) 260 (nxt ts) (by simp [tk, hk]) (by omega) (by omega) 260 rfl
  have HTK := Lib.hid htk; clear htk h
  go_enter Tryz.func197, Tryz.ntmps197
  go_wp2_with fail
  refine HTK.out.mono ?_
  rintro e w1 ⟨kk, aa, lo, wd1, lg1, rfl, hw1, hS1, hg1⟩
  have hlo : lo = (hd ts).n := (hw1 ts rfl hk).2
  have hr1 : Blk w1 w.heap.size 35 #[.int .i64 0, .int .i64 0, .int .i64 0, .string ⟨#[]⟩, .slice none 0 0] := Blk.grown (Blk.new w _ _) hg1 (fun e => by injection e with e; omega)
  have hG1 : w.grownBy w1 (some b) := only_trans (only_alloc (only_refl _ _) _) hg1
  have HW := Lib.hid hlo; clear hw1 hg1 hlo HTK
  obtain ⟨x1, hx1⟩ : ∃ x1, nxt ts = x1 := ⟨_, rfl⟩
  rw [hx1] at hS1
  have hsp : spanR ts = x1.into (spanF (hd ts).n) := by rw [<- hx1]; rfl
  clear hx1
  -- the end: a range, laid in the result's cells
  have fin : ∀ (W : World) (y : Rd Tree) (lo hi : Int), Blk W w.heap.size 35 #[.int .i64 0, .int .i64 0, .int .i64 0, .string ⟨#[]⟩, .slice none 0 0] -> St W b s y.st df rl dp -> w.grownBy W (some b) -> (∀ t ts, y = .ok (t, ts) -> t = cRange lo hi) -> spanR ts = y ->
    Reads_ false w b s (spanR ts) df rl dp (.returned (.agg #[.int .i64 1, .int .i64 lo, .int .i64 hi, .string ⟨#[]⟩, .slice none 0 0])) (fiveAt W w.heap.size (.int .i64 1) (.int .i64 lo) (.int .i64 hi) (.string ⟨#[]⟩) (.slice none 0 0)) := by
    intro W y lo hi h1 h2 h3 h4 h5
    rw [h5]
    refine ⟨_, rfl, headV_false _ _ _ _ _ _ _, fun t ts e => ?_, h2.five hblt, only_five h3 (Nat.le_refl _)⟩
    rw [h4 t ts e]
    exact TreeV.leaf false _ _ 1 lo hi 0 ⟨#[]⟩ (fun _ => rfl)
  have FIN := Lib.hid fin; clear fin
  by_cases h46 : kX x1 = 46
  ·obtain ⟨t1, rfl⟩ : ∃ t1, x1 = .ok t1 := by
    cases x1 with
    | ok t1 => exact ⟨t1, rfl⟩
    | error e => simp [kX] at h46
   have hk1 : kd t1 = 46 := Int.ofNat.inj h46
   have q1 : (kX (.ok t1) != 46) = false := by simpa using h46
   have c2 := hS1.kind
   obtain ⟨x3, hx3⟩ : ∃ x3, (nxt t1).on (tk 46) = x3 := ⟨_, rfl⟩
   have hy : spanR ts = x3.into (spanG (hd ts).n) := by
    rw [hsp, into_ok, spanF, if_neg (by simp [hk1]), <- hx3]
    cases nxt t1 <;> rfl
   have HY := Lib.hid hy
   clear hy hsp
   have ht1 := take_y hS1 46 (nxt t1) (by simp [tk, hk1]) (by omega) (by omega) 46 rfl
   have HT1 := Lib.hid ht1; have HG1 := Lib.hid hG1; have HR1 := Lib.hid hr1; have HX3 := Lib.hid hx3; clear ht1 hS1 hG1 hr1 h46 hx3
   go_wp2_with fail
   refine HT1.out.mono ?_
   rintro e w2 ⟨kk2, aa2, n2, wd2, lg2, rfl, -, hS2, hg2⟩
   have ht2 := take_y hS2 46 x3 HX3.out (by omega) (by omega) 46 rfl
   have HT2 := Lib.hid ht2; have HG2 := Lib.hid (only_trans HG1.out hg2); have HR2 := Lib.hid (Blk.grown HR1.out hg2 (fun e => by injection e with e; omega)); clear ht2 hS2 hg2 HG1 HR1 HT1 c2 q1
   go_wp2_with fail
   refine HT2.out.mono ?_
   rintro e w3 ⟨kk3, aa3, n3, wd3, lg3, rfl, -, hS3, hg3⟩
   have c2 := hS3.kind
   obtain ⟨N3, c5, hN3⟩ := hS3.num
   have HS3 := Lib.hid hS3; have HG3 := Lib.hid (only_trans HG2.out hg3); have HR3 := Lib.hid (Blk.grown HR2.out hg3 (fun e => by injection e with e; omega)); have HN3 := Lib.hid hN3
   clear hS3 hg3 HG2 HR2 HT2 hN3
   -- behind the last one: the same in all cases
   have last : ∀ (W : World) (x4 : X) (y : Rd Tree), St W b s x4 df rl dp -> w.grownBy W (some b) -> Blk W w.heap.size 35 #[.int .i64 0, .int .i64 0, .int .i64 0, .string ⟨#[]⟩, .slice none 0 0] -> y.st = x4.on (tk 260) ->
     (∀ t ts', y = .ok (t, ts') -> ∃ t3, x4 = .ok t3 /\ kd t3 = 260 /\ t = cRange (hd ts).n (hd t3).n) -> spanR ts = y ->
     Calls Tryz.prog 77 #[.pointer (some ⟨b, 0, none⟩), .int .i64 260] W fun e W' => ∃ (kk aa n : Int) (wd : ByteArray) (lg : Bool), e = .returned (.agg #[.int .i64 kk, .int .i64 aa, .string wd, .int .i64 n, .bool lg]) /\
      Blk W' w.heap.size 35 #[.int .i64 0, .int .i64 0, .int .i64 0, .string ⟨#[]⟩, .slice none 0 0] /\
      Reads_ false w b s (spanR ts) df rl dp (.returned (.agg #[.int .i64 1, .int .i64 lo, .int .i64 n, .string ⟨#[]⟩, .slice none 0 0])) (fiveAt W' w.heap.size (.int .i64 1) (.int .i64 lo) (.int .i64 n) (.string ⟨#[]⟩) (.slice none 0 0)) := by
     intro W x4 y h1 h2 h3 h4 h5 h6
     refine (take_y h1 260 _ rfl (by omega) (by omega) 260 rfl).mono ?_
     rintro e W' ⟨kk, aa, n, wd, lg, rfl, e2, e3, e4⟩
     have hb4 : Blk W' w.heap.size 35 #[.int .i64 0, .int .i64 0, .int .i64 0, .string ⟨#[]⟩, .slice none 0 0] := Blk.grown h3 e4 (fun e => by injection e with e; omega)
     refine ⟨kk, aa, n, wd, lg, rfl, hb4, FIN.out W' y lo n hb4 (by rw [h4]; exact e3) (only_trans h2 e4) ?_ h6⟩
     intro t ts' e
     obtain ⟨t3, rfl, hk3, rfl⟩ := h5 t ts' e
     rw [HW.out, (e2 t3 rfl hk3).2]
   have LAST := Lib.hid last; clear last
   by_cases h60 : kX x3 = 260
   ·obtain ⟨t3, rfl⟩ : ∃ t3, x3 = .ok t3 := by
     cases x3 with
     | ok t3 => exact ⟨t3, rfl⟩
     | error e => simp [kX] at h60
    have hk3 : kd t3 = 260 := Int.ofNat.inj h60
    have hn3 := HN3.out t3 rfl
    have q2 : (kX (.ok t3) == 260) = true := by simpa using h60
    by_cases hlt : N3 < lo
    ·have hb : Nat.blt (hd t3).n (hd ts).n = true := blt_yes (by have := HW.out; omega)
     have hy : spanR ts = .error (1, t3) := by rw [HY.out, into_ok, spanG, hb]; simp [hk3]
     have HY2 := Lib.hid hy
     have hf := fail_st HS3.out 1 (by omega)
     rw [show ((1 : Nat) : Int) = 1 from rfl] at hf
     have HF := Lib.hid hf; clear hf hy hb hn3 h60
     go_wp2_with fail
     refine HF.out.mono ?_
     rintro e w4 ⟨rfl, hS4, hg4⟩
     have hl := LAST.out w4 (.error (1, t3)) (.error (1, t3)) hS4 (only_trans HG3.out hg4) (Blk.grown HR3.out hg4 (fun e => by injection e with e; omega)) rfl (fun t ts' e => by cases e) HY2.out
     have HL := Lib.hid hl; clear hl hS4 hg4
     go_wp2_with fail
     refine HL.out.mono ?_
     rintro e w5 ⟨kk5, aa5, n5, wd5, lg5, rfl, hr5, hfin⟩
     have r0 := Blk.cell hr5 0; have r1 := Blk.cell hr5 1; have r2 := Blk.cell hr5 2; have r3 := Blk.cell hr5 3; have r4 := Blk.cell hr5 4
     simp only [List.getElem?_toArray, List.getElem?_cons_zero, List.getElem?_cons_succ] at r0 r1 r2 r3 r4
     have fr := fun i => Blk.frozen hr5 i
     have HFN := Lib.hid hfin; clear hfin hr5
     go_wp2_with fail
     refine bodyPost_ret (v := .agg #[.int .i64 1, .int .i64 lo, .int .i64 n5, .string ⟨#[]⟩, .slice none 0 0]) (by simp [results, Tryz.results197, go_sem, r0, r1, r2, r3, r4]) rfl ?_
     exact HFN.out
    ·have hb : Nat.blt (hd t3).n (hd ts).n = false := blt_no (by have := HW.out; omega)
     have hy : spanR ts = (tk 260 t3).give (cRange (hd ts).n (hd t3).n) := by rw [HY.out, into_ok, spanG, hb]; simp
     have q3 : decide (N3 < lo) = false := by simpa using hlt
     have hl := LAST.out w3 (.ok t3) ((tk 260 t3).give (cRange (hd ts).n (hd t3).n)) HS3.out HG3.out HR3.out (by rw [on_ok]; cases tk 260 t3 <;> rfl) (fun t ts' e => ⟨t3, rfl, hk3, by
      cases hq : tk 260 t3 with
      | ok z => rw [hq] at e; cases e; rfl
      | error z => rw [hq] at e; cases e⟩) hy
     have HL := Lib.hid hl; clear hl hy hb hn3 h60 hlt
     go_wp2_with fail
     refine HL.out.mono ?_
     rintro e w5 ⟨kk5, aa5, n5, wd5, lg5, rfl, hr5, hfin⟩
     have r0 := Blk.cell hr5 0; have r1 := Blk.cell hr5 1; have r2 := Blk.cell hr5 2; have r3 := Blk.cell hr5 3; have r4 := Blk.cell hr5 4
     simp only [List.getElem?_toArray, List.getElem?_cons_zero, List.getElem?_cons_succ] at r0 r1 r2 r3 r4
     have fr := fun i => Blk.frozen hr5 i
     have HFN := Lib.hid hfin; clear hfin hr5
     go_wp2_with fail
     refine bodyPost_ret (v := .agg #[.int .i64 1, .int .i64 lo, .int .i64 n5, .string ⟨#[]⟩, .slice none 0 0]) (by simp [results, Tryz.results197, go_sem, r0, r1, r2, r3, r4]) rfl ?_
     exact HFN.out
   ·have q2 : (kX x3 == 260) = false := by simpa using h60
    have hy : spanR ts = (match x3.on (tk 260) with | .ok z => .ok (cAny, z) | .error e => .error e : Rd Tree) /\ ∀ z, x3.on (tk 260) ≠ .ok z := by
     rw [HY.out]
     cases x3 with
     | error e => exact ⟨rfl, fun z e => by cases e⟩
     | ok t3 =>
       have : kd t3 ≠ 260 := fun e => h60 (by simp [kX, e])
       refine ⟨by simp [spanG, tk, this, X.give], fun z e => by simp [tk, this] at e⟩
    have hl := LAST.out w3 x3 (match x3.on (tk 260) with | .ok z => .ok (cAny, z) | .error e => .error e : Rd Tree) HS3.out HG3.out HR3.out (by cases x3.on (tk 260) <;> rfl) (fun t ts' e => by
      cases hq : x3.on (tk 260) with
      | ok z => exact absurd hq (hy.2 z)
      | error z => rw [hq] at e; cases e) hy.1
    have HL := Lib.hid hl; clear hl hy h60
    go_wp2_with fail
    refine HL.out.mono ?_
    rintro e w5 ⟨kk5, aa5, n5, wd5, lg5, rfl, hr5, hfin⟩
    have r0 := Blk.cell hr5 0; have r1 := Blk.cell hr5 1; have r2 := Blk.cell hr5 2; have r3 := Blk.cell hr5 3; have r4 := Blk.cell hr5 4
    simp only [List.getElem?_toArray, List.getElem?_cons_zero, List.getElem?_cons_succ] at r0 r1 r2 r3 r4
    have fr := fun i => Blk.frozen hr5 i
    have HFN := Lib.hid hfin; clear hfin hr5
    go_wp2_with fail
    refine bodyPost_ret (v := .agg #[.int .i64 1, .int .i64 lo, .int .i64 n5, .string ⟨#[]⟩, .slice none 0 0]) (by simp [results, Tryz.results197, go_sem, r0, r1, r2, r3, r4]) rfl ?_
    exact HFN.out
  ·have q1 : (kX x1 != 46) = true := by simpa using h46
   have c2 := hS1.kind
   have r0 := Blk.cell hr1 0; have r1 := Blk.cell hr1 1; have r2 := Blk.cell hr1 2; have r3 := Blk.cell hr1 3; have r4 := Blk.cell hr1 4
   simp only [List.getElem?_toArray, List.getElem?_cons_zero, List.getElem?_cons_succ] at r0 r1 r2 r3 r4
   have fr := fun i => Blk.frozen hr1 i
   have hy : spanR ts = (x1.give (cRange (hd ts).n (hd ts).n) : Rd Tree) := by
    rw [hsp]
    cases x1 with
    | error e => rfl
    | ok t1 =>
      have : kd t1 ≠ 46 := fun e => h46 (by simp [kX, e])
      simp [spanF, this]
   have HY := Lib.hid hy; clear hsp
   have HS1 := Lib.hid hS1; have HG1 := Lib.hid hG1; have HR1 := Lib.hid hr1; clear hS1 hG1 hr1 h46 hy
   go_wp2_with fail
   refine bodyPost_ret (v := .agg #[.int .i64 1, .int .i64 lo, .int .i64 lo, .string ⟨#[]⟩, .slice none 0 0]) (by simp [results, Tryz.results197, go_sem, r0, r1, r2, r3, r4]) rfl ?_
   refine FIN.out w1 (x1.give (cRange (hd ts).n (hd ts).n)) lo lo HR1.out ?_ HG1.out ?_ HY.out
   ·have := HS1.out
    cases x1 <;> exact this
   ·intro t ts' e
    rw [HW.out]
    cases x1 with
    | error e2 => cases e
    | ok t1 => cases e; rfl
end Go.Proofs.YtalgnnidhnhciaaGreatDoor
namespace Go.Proofs.YtalgnnidhnhciaaGreatDoor
open Go Go.RowKit Go.Proofs
def Pat.tail : Pat -> Bs
 | .star _ => [42]
 | .times _ lo hi => 123 :: (Lib.decDigits lo ++ 44 :: (Lib.decDigits hi ++ [125]))
 | .weight _ w => 32 :: 64 :: 32 :: Lib.decDigits w
 | _ => []
theorem behind_star (B b : Nat) (l : Bs) (w : World) (k lo hi wt : Int) (nm : ByteArray) (A : Option Addr) (n c : Nat) (hk : k = 6) (h : BldW B b l w) (hlen : l.length + 1 <= 1000000000) (hBw : B <= w.heap.size) :
  Calls Tryz.prog 72 #[.pointer (some ⟨b, 0, none⟩), .agg #[.int .i64 k, .int .i64 lo, .int .i64 hi, .int .i64 wt, .string nm, .slice A n c]] w (WEnd B b (l ++ [42]) w) := by
  subst hk
  have hF0 := (WFr.refl B b w).alloc hBw (.cells #[.int .i64 6, .int .i64 lo, .int .i64 hi, .int .i64 wt, .string nm, .slice A n c] 46)
  have hc := one_new (⟨#[42]⟩ : ByteArray) (h.alloc (.cells #[.int .i64 6, .int .i64 lo, .int .i64 hi, .int .i64 wt, .string nm, .slice A n c] 46)) [42] rfl (by simp; omega) (w.heap.size + 1) (by simp)
  have HC := Lib.hid hc; have HF := Lib.hid hF0; clear hc hF0 h
  go_enter Tryz.func72, Tryz.ntmps72
  go_wp2_with fail
  refine HC.out.mono ?_
  rintro e w1 ⟨rfl, h1, hF1⟩
  have H1 := Lib.hid h1; have HF1 := Lib.hid (HF.out.trans hF1); clear h1 hF1
  go_wp2_with fail
  go_end0
  exact ⟨rfl, H1.out, HF1.out⟩
theorem behind_times (B b : Nat) (l : Bs) (w : World) (k wt : Int) (x y : Nat) (nm : ByteArray) (A : Option Addr) (n c : Nat) (hk : k = 7) (hx : x < 100) (hy : y < 100) (h : BldW B b l w)
  (hlen : l.length + (123 :: (Lib.decDigits x ++ 44 :: (Lib.decDigits y ++ [125]))).length <= 1000000000) (hBw : B <= w.heap.size) :
  Calls Tryz.prog 72 #[.pointer (some ⟨b, 0, none⟩), .agg #[.int .i64 k, .int .i64 x, .int .i64 y, .int .i64 wt, .string nm, .slice A n c]] w (WEnd B b (l ++ (123 :: (Lib.decDigits x ++ 44 :: (Lib.decDigits y ++ [125])))) w) := by
  subst hk
  have hF0 := ((WFr.refl B b w).alloc hBw (.cells #[.int .i64 7, .int .i64 x, .int .i64 y, .int .i64 wt, .string nm, .slice A n c] 46)).drew
  have h0 : BldW B b l (w.alloc (.cells #[.int .i64 7, .int .i64 x, .int .i64 y, .int .i64 wt, .string nm, .slice A n c] 46)).drew := (h.alloc (.cells #[.int .i64 7, .int .i64 x, .int .i64 y, .int .i64 wt, .string nm, .slice A n c] 46)).drew
  have hix := fun W => Tryz.strconv_Itoa_small x hx W
  have hiy := fun W => Tryz.strconv_Itoa_small y hy W
  obtain ⟨X, hX⟩ : ∃ X, Lib.decDigits x = X := ⟨_, rfl⟩
  obtain ⟨Y, hY⟩ : ∃ Y, Lib.decDigits y = Y := ⟨_, rfl⟩
  rw [hX] at hix hlen ⊢
  rw [hY] at hiy hlen ⊢
  have hcat : catS [⟨#[123]⟩, ⟨X.toArray⟩, ⟨#[44]⟩, ⟨Y.toArray⟩, ⟨#[125]⟩] = 123 :: (X ++ 44 :: (Y ++ [125])) := by simp [catS]
  have hc := fun (W : World) (hW : BldW B b l W) => all_new B b l [⟨#[123]⟩, ⟨X.toArray⟩, ⟨#[44]⟩, ⟨Y.toArray⟩, ⟨#[125]⟩] #[.string ⟨#[123]⟩, .string ⟨X.toArray⟩, .string ⟨#[44]⟩, .string ⟨Y.toArray⟩, .string ⟨#[125]⟩] rfl 5 rfl W hW (by rw [hcat]; exact hlen) (by omega) _ hcat _ rfl
  have HC := Lib.hid hc; have HF := Lib.hid hF0; have HX := Lib.hid hix; have HY := Lib.hid hiy; have H0 := Lib.hid h0
  clear hc hF0 h h0 hix hiy hX hY hlen hcat
  go_enter Tryz.func72, Tryz.ntmps72
  go_wp2_with fail
  have hx := Blk.drew (Blk.new w 46 #[.int .i64 7, .int .i64 x, .int .i64 y, .int .i64 wt, .string nm, .slice A n c])
  have v1 := Blk.cell hx 1; have v2 := Blk.cell hx 2
  simp only [List.getElem?_toArray, List.getElem?_cons_zero, List.getElem?_cons_succ] at v1 v2
  clear hx
  refine region_x 8 (fun w' : World => w'.cell? ⟨w.heap.size, 1, none⟩ = some (.int .i64 x) /\ w'.cell? ⟨w.heap.size, 2, none⟩ = some (.int .i64 y)) (by kernel_rfl) ?_
  obtain ⟨W, hW⟩ : ∃ W, (w.alloc (.cells #[.int .i64 7, .int .i64 x, .int .i64 y, .int .i64 wt, .string nm, .slice A n c] 46)).drew = W := ⟨_, rfl⟩
  rw [hW] at v1 v2 HF H0 ⊢
  have hS : W.cell? ⟨w.heap.size, 1, none⟩ = some (.int .i64 x) /\ W.cell? ⟨w.heap.size, 2, none⟩ = some (.int .i64 y) := ⟨v1, v2⟩
  clear v1 v2
  refine tkx (i := 0) (v := ?_) hS ?_ ?_
  rotate_left
  ·rintro w' ⟨s1, s2⟩
   go_simp
   try with_reducible rfl
  try simp only [Act.put, zq1, zq2, zq3, zq4, zq5, zq6]
  refine anyX_takeG [2, 3, 6, 7] (i := 1) (v := ?_) rfl (by kernel_rfl) (by kernel_rfl) (by kernel_rfl) (by kernel_rfl) (by kernel_rfl) (fun _ _ _ h => h) (Or.inl ⟨by rfl, ?_⟩) hS ?_
  rotate_left
  ·rintro w' ⟨s1, s2⟩
   go_simp
   try with_reducible rfl
  try simp only [Act.put, zq1, zq2, zq3, zq4, zq5, zq6]
  refine anyX_takeG [3, 6, 7] (i := 2) (v := ?_) rfl (by kernel_rfl) (by kernel_rfl) (by kernel_rfl) (by kernel_rfl) (by kernel_rfl) (fun _ _ _ h => h) (Or.inl ⟨by rfl, ?_⟩) hS ?_
  rotate_left
  ·rintro w' ⟨s1, s2⟩
   go_simp
   try with_reducible rfl
  try simp only [Act.put, zq1, zq2, zq3, zq4, zq5, zq6]
  refine anyX_takeG [5, 6, 7] (i := 4) (v := ?_) rfl (by kernel_rfl) (by kernel_rfl) (by kernel_rfl) (by kernel_rfl) (by kernel_rfl) (fun _ _ _ h => h) (Or.inl ⟨by rfl, ?_⟩) hS ?_
  rotate_left
  ·rintro w' ⟨s1, s2⟩
   go_simp
   try with_reducible rfl
  try simp only [Act.put, zq1, zq2, zq3, zq4, zq5, zq6]
  refine anyX_takeG [6, 7] (i := 5) (v := ?_) rfl (by kernel_rfl) (by kernel_rfl) (by kernel_rfl) (by kernel_rfl) (by kernel_rfl) (fun _ _ _ h => h) (Or.inl ⟨by rfl, ?_⟩) hS ?_
  rotate_left
  ·rintro w' ⟨s1, s2⟩
   go_simp
   try with_reducible rfl
  try simp only [Act.put, zq1, zq2, zq3, zq4, zq5, zq6]
  refine anyX_g (i := 3) (by kernel_rfl) (by decide) rfl (by rfl) ?_
  intro K hK
  try simp only [zq1, zq2, zq3]
  refine wp_enterE #[.int .i64 x] Tryz.func87 (by kernel_rfl) (by kernel_rfl) ?_ (HX.out W) ?_
  ·go_simp
  rintro e w' ⟨rfl, hw'⟩
  rw [hw']
  clear hw' w'
  refine ⟨_, rfl, ?_⟩
  refine hK _ _ hS ?_
  clear hK
  try simp only [Act.put, zq1, zq2, zq3, zq4, zq5, zq6]
  refine anyX_g (i := 6) (by kernel_rfl) (by decide) rfl (by rfl) ?_
  intro K hK
  try simp only [zq1, zq2, zq3]
  refine wp_enterE #[.int .i64 y] Tryz.func87 (by kernel_rfl) (by kernel_rfl) ?_ (HY.out W) ?_
  ·go_simp
  rintro e w' ⟨rfl, hw'⟩
  rw [hw']
  clear hw' w'
  refine ⟨_, rfl, ?_⟩
  refine hK _ _ hS ?_
  clear hK
  try simp only [Act.put, zq1, zq2, zq3, zq4, zq5, zq6]
  refine anyX_g (i := 7) (by kernel_rfl) (by decide) rfl (by rfl) ?_
  intro K hK
  try simp only [zq1, zq2, zq3]
  go_simp
  have hSa : (fun w' : World => w'.cell? ⟨w.heap.size, 1, none⟩ = some (.int .i64 x) /\ w'.cell? ⟨w.heap.size, 2, none⟩ = some (.int .i64 y)) (W.alloc (.cells #[.string ⟨#[123]⟩, .string ⟨X.toArray⟩, .string ⟨#[44]⟩, .string ⟨Y.toArray⟩, .string ⟨#[125]⟩] 9)) := by
   obtain ⟨s1, s2⟩ := hS
   exact ⟨by rw [World.cell?_alloc_past _ _ _ (World.block_lt_of_cell? W _ s1)]; exact s1, by rw [World.cell?_alloc_past _ _ _ (World.block_lt_of_cell? W _ s2)]; exact s2⟩
  refine hK _ _ hSa ?_
  clear hK hS hSa
  try simp only [Act.put, zq1, zq2, zq3, zq4, zq5, zq6]
  refine anyX_last (by kernel_rfl) (by kernel_rfl) rfl rfl ?_
  try simp only [zq1, zq2, zq3]
  refine wp_enterE #[.pointer (some ⟨b, 0, none⟩), .slice (some ⟨W.heap.size, 0, none⟩) 5 5] Tryz.func68 (by kernel_rfl) (by kernel_rfl) ?_ (HC.out W H0.out) ?_
  ·go_simp
  rintro e w1 ⟨rfl, h1, hF1⟩
  refine ⟨_, rfl, ?_⟩
  have H1 := Lib.hid h1; have HF1 := Lib.hid (HF.out.trans hF1); clear h1 hF1 hW
  try apply_assumption
  go_wp2_with fail
  go_end0
  exact ⟨rfl, H1.out, HF1.out⟩
theorem behind_weight (B b : Nat) (l : Bs) (w : World) (k lo hi : Int) (x : Nat) (nm : ByteArray) (A : Option Addr) (n c : Nat) (hk : k = 8) (hx : x < 100) (h : BldW B b l w)
  (hlen : l.length + (32 :: 64 :: 32 :: Lib.decDigits x).length <= 1000000000) (hBw : B <= w.heap.size) :
  Calls Tryz.prog 72 #[.pointer (some ⟨b, 0, none⟩), .agg #[.int .i64 k, .int .i64 lo, .int .i64 hi, .int .i64 x, .string nm, .slice A n c]] w (WEnd B b (l ++ (32 :: 64 :: 32 :: Lib.decDigits x)) w) := by
  subst hk
  have hF0 := (WFr.refl B b w).alloc hBw (.cells #[.int .i64 8, .int .i64 lo, .int .i64 hi, .int .i64 x, .string nm, .slice A n c] 46)
  have hix := fun W => Tryz.strconv_Itoa_small x hx W
  obtain ⟨X, hX⟩ : ∃ X, Lib.decDigits x = X := ⟨_, rfl⟩
  rw [hX] at hix hlen ⊢
  have hcat : catS [⟨#[32, 64, 32]⟩, ⟨X.toArray⟩] = 32 :: 64 :: 32 :: X := by simp [catS]
  have hc := all_new B b l [⟨#[32, 64, 32]⟩, ⟨X.toArray⟩] #[.string ⟨#[32, 64, 32]⟩, .string ⟨X.toArray⟩] rfl 2 rfl (w.alloc (.cells #[.int .i64 8, .int .i64 lo, .int .i64 hi, .int .i64 x, .string nm, .slice A n c] 46)) (h.alloc _) (by rw [hcat]; exact hlen) (by omega) _ hcat (w.heap.size + 1) (by simp)
  have HC := Lib.hid hc; have HF := Lib.hid hF0; have HX := Lib.hid hix
  clear hc hF0 h hix hX hlen hcat
  go_enter Tryz.func72, Tryz.ntmps72
  go_wp2_with fail
  refine (HX.out _).mono ?_
  rintro e w0 ⟨rfl, rfl⟩
  go_wp2_with fail
  refine HC.out.mono ?_
  rintro e w1 ⟨rfl, h1, hF1⟩
  have H1 := Lib.hid h1; have HF1 := Lib.hid (HF.out.trans hF1); clear h1 hF1
  go_wp2_with fail
  go_end0
  exact ⟨rfl, H1.out, HF1.out⟩
theorem rex_one (a : Pat) (K : Int) (hK : K = 6 \/ K = 7 \/ K = 8) (lo hi wt : Int) (tl : Bs) (ha : WSpec 70 a (within_ a.atom a.text))
  (hb : ∀ (B b : Nat) (l : Bs) (w : World) (nm : ByteArray) (A : Option Addr) (n c : Nat), BldW B b l w -> l.length + tl.length <= 1000000000 -> B <= w.heap.size ->
   Calls Tryz.prog 72 #[.pointer (some ⟨b, 0, none⟩), .agg #[.int .i64 K, .int .i64 lo, .int .i64 hi, .int .i64 wt, .string nm, .slice A n c]] w (WEnd B b (l ++ tl) w))
  (B b : Nat) (l : Bs) (w : World) (v : Value) (hT : TreeV true w (fun g => g < B) v (.mk K lo hi wt [] [a.tree])) (h : BldW B b l w) (hlen : l.length + (within_ a.atom a.text ++ tl).length <= 1000000000) (hBw : B <= w.heap.size) :
  Calls Tryz.prog 38 #[.pointer (some ⟨b, 0, none⟩), v] w (WEnd B b (l ++ (within_ a.atom a.text ++ tl)) w) := by
  have hlt := h.lt
  obtain ⟨nm, A, n, c, rfl, hnm, hk⟩ := hT.six_
  obtain rfl : n = 1 := by have := hk.1; simpa using this.symm
  obtain ⟨g, o, rfl⟩ := hk.2.2.2.1.some (by omega)
  have hF0 := (WFr.refl B b w).alloc hBw (.cells #[.int .i64 K, .int .i64 lo, .int .i64 hi, .int .i64 wt, .string nm, .slice (some ⟨g, o, none⟩) 1 c] 46)
  have h0 := h.alloc (.cells #[.int .i64 K, .int .i64 lo, .int .i64 hi, .int .i64 wt, .string nm, .slice (some ⟨g, o, none⟩) 1 c] 46)
  have hbox := Blk.new w 46 #[.int .i64 K, .int .i64 lo, .int .i64 hi, .int .i64 wt, .string nm, .slice (some ⟨g, o, none⟩) 1 c]
  have hch := childR_ok _ (fun g => g < B) g o 1 c [a.tree] 0 (by simp) (hk.fr hF0.below) 0 rfl (by omega)
  obtain ⟨P, hP⟩ : ∃ P, within_ a.atom a.text = P := ⟨_, rfl⟩
  rw [hP] at ha hlen ⊢
  simp only [List.length_append] at hlen
  have hz : w.heap.size < (w.alloc (.cells #[.int .i64 K, .int .i64 lo, .int .i64 hi, .int .i64 wt, .string nm, .slice (some ⟨g, o, none⟩) 1 c] 46)).heap.size := by simp
  have HCH := Lib.hid hch; have HF := Lib.hid hF0; have H0 := Lib.hid h0; have HA := Lib.hid ha; have HBH := Lib.hid hb; have HBX := Lib.hid hbox
  clear hch hF0 h0 h ha hb hbox hk hT hP
  have hcm := HBX.out
  rcases hK with hK | hK | hK
  all_goals (
   subst hK
   clear hcm
   go_enter Tryz.func38, Tryz.ntmps38
   go_wp2_with fail
   refine HCH.out.mono ?_
   rintro e w1 ⟨v', rfl, hv, hb1⟩
   have hF1 := HF.out.of_below (by omega) hb1
   have hw := HA.out B b l w1 v' hv (H0.out.below hb1) (by omega) (by have := hF1.grows; omega)
   have HW := Lib.hid hw; have HF1 := Lib.hid hF1
   have hx1 := Blk.below HBX.out hb1 (Blk.lt HBX.out)
   have HX1 := Lib.hid hx1
   clear hw hF1 hv hb1 hx1 HCH
   go_wp2_with fail
   refine HW.out.mono ?_
   rintro e w2 ⟨rfl, h2, hF2⟩
   have hx2 := hF2.keeps w.heap.size _ _ HX1.out (by omega) (by decide)
   have v0 := Blk.cell hx2 0; have v1 := Blk.cell hx2 1; have v2 := Blk.cell hx2 2; have v3 := Blk.cell hx2 3; have v4 := Blk.cell hx2 4; have v5 := Blk.cell hx2 5
   simp only [List.getElem?_toArray, List.getElem?_cons_zero, List.getElem?_cons_succ] at v0 v1 v2 v3 v4 v5
   have hF2' := HF1.out.trans hF2
   have hbh := HBH.out B b (l ++ P) w2 nm (some ⟨g, o, none⟩) 1 c h2 (by simp; omega) (by have := hF2'.grows; omega)
   have HB2 := Lib.hid hbh; have HF2 := Lib.hid hF2'
   clear hbh hF2 hF2' h2 hx2 HW HF1
   go_wp2_with fail
   refine HB2.out.mono ?_
   rintro e w3 ⟨rfl, h3, hF3⟩
   have H3 := Lib.hid h3; have HF3 := Lib.hid (HF2.out.trans hF3)
   clear h3 hF3 v0 v1 v2 v3 v4 v5
   go_wp2_with fail
   go_end0
   refine ⟨rfl, ?_, HF3.out⟩
   have := H3.out
   simpa using this)
theorem rex_leaf (p : Pat) (s : ByteArray) (hp : (p = .none_ /\ s = ⟨#[40, 41]⟩) \/ (p = .any_ /\ s = ⟨#[97, 110, 121]⟩) \/ p = .set s.data.toList) : WSpec 38 p s.data.toList := by
 intro B b l w v hT h hlen hBw
 have hlt := h.lt
 rcases hp with ⟨rfl, rfl⟩ | ⟨rfl, rfl⟩ | rfl
 ·obtain ⟨nm, A, n, c, rfl, hnm, hk⟩ := hT.six_
  have hF0 := (WFr.refl B b w).alloc hBw (.cells #[.int .i64 1, .int .i64 0, .int .i64 0, .int .i64 0, .string nm, .slice A n c] 46)
  have hc := one_new (⟨#[40, 41]⟩ : ByteArray) (h.alloc (.cells #[.int .i64 1, .int .i64 0, .int .i64 0, .int .i64 0, .string nm, .slice A n c] 46)) _ rfl hlen (w.heap.size + 1) (by simp)
  have HC := Lib.hid hc; have HF := Lib.hid hF0; clear hc hF0 h hk hT
  go_enter Tryz.func38, Tryz.ntmps38
  go_wp2_with fail
  refine HC.out.mono ?_
  rintro e w1 ⟨rfl, h1, hF1⟩
  have H1 := Lib.hid h1; have HF1 := Lib.hid (HF.out.trans hF1); clear h1 hF1
  go_wp2_with fail
  go_end0
  exact ⟨rfl, H1.out, HF1.out⟩
 ·obtain ⟨nm, A, n, c, rfl, hnm, hk⟩ := hT.six_
  have hF0 := (WFr.refl B b w).alloc hBw (.cells #[.int .i64 3, .int .i64 0, .int .i64 0, .int .i64 0, .string nm, .slice A n c] 46)
  have hc := one_new (⟨#[97, 110, 121]⟩ : ByteArray) (h.alloc (.cells #[.int .i64 3, .int .i64 0, .int .i64 0, .int .i64 0, .string nm, .slice A n c] 46)) _ rfl hlen (w.heap.size + 1) (by simp)
  have HC := Lib.hid hc; have HF := Lib.hid hF0; clear hc hF0 h hk hT
  go_enter Tryz.func38, Tryz.ntmps38
  go_wp2_with fail
  refine HC.out.mono ?_
  rintro e w1 ⟨rfl, h1, hF1⟩
  have H1 := Lib.hid h1; have HF1 := Lib.hid (HF.out.trans hF1); clear h1 hF1
  go_wp2_with fail
  go_end0
  exact ⟨rfl, H1.out, HF1.out⟩
 ·obtain ⟨nm, A, n, c, rfl, hnm, hk⟩ := hT.six_
  rw [<- hnm] at hlen ⊢
  have hF0 := (WFr.refl B b w).alloc hBw (.cells #[.int .i64 2, .int .i64 0, .int .i64 0, .int .i64 0, .string nm, .slice A n c] 46)
  have hc := one_new nm (h.alloc (.cells #[.int .i64 2, .int .i64 0, .int .i64 0, .int .i64 0, .string nm, .slice A n c] 46)) _ rfl hlen (w.heap.size + 1) (by simp)
  have HC := Lib.hid hc; have HF := Lib.hid hF0; clear hc hF0 h hk hT
  go_enter Tryz.func38, Tryz.ntmps38
  go_wp2_with fail
  refine HC.out.mono ?_
  rintro e w1 ⟨rfl, h1, hF1⟩
  have H1 := Lib.hid h1; have HF1 := Lib.hid (HF.out.trans hF1); clear h1 hF1
  go_wp2_with fail
  go_end0
  exact ⟨rfl, H1.out, HF1.out⟩
theorem rex_two (p q : Pat) (K : Int) (s : ByteArray) (hK : (K = 4 /\ s = ⟨#[32]⟩) \/ (K = 5 /\ s = ⟨#[32, 124, 32]⟩)) (hp : WSpec 70 p (within_ p.atom p.text)) (hq : WSpec 70 q (within_ q.atom q.text))
  (B b : Nat) (l : Bs) (w : World) (v : Value) (hT : TreeV true w (fun g => g < B) v (.mk K 0 0 0 [] [p.tree, q.tree])) (h : BldW B b l w) (hlen : l.length + (within_ p.atom p.text ++ (s.data.toList ++ within_ q.atom q.text)).length <= 1000000000) (hBw : B <= w.heap.size) :
  Calls Tryz.prog 38 #[.pointer (some ⟨b, 0, none⟩), v] w (WEnd B b (l ++ (within_ p.atom p.text ++ (s.data.toList ++ within_ q.atom q.text))) w) := by
  have hlt := h.lt
  obtain ⟨nm, A, n, c, rfl, hnm, hk⟩ := hT.six_
  obtain rfl : n = 2 := by have := hk.1; simpa using this.symm
  obtain ⟨g, o, rfl⟩ := hk.2.2.2.1.some (by omega)
  have hF0 := (WFr.refl B b w).alloc hBw (.cells #[.int .i64 K, .int .i64 0, .int .i64 0, .int .i64 0, .string nm, .slice (some ⟨g, o, none⟩) 2 c] 46)
  have hc := twoRexes_ok p q hp hq B b l _ _ 2 c s _ rfl (hk.fr hF0.below) ⟨g, o, rfl⟩ (h.alloc (.cells #[.int .i64 K, .int .i64 0, .int .i64 0, .int .i64 0, .string nm, .slice (some ⟨g, o, none⟩) 2 c] 46)) hlen (by simp; omega)
  obtain ⟨T, hT'⟩ : ∃ T, within_ p.atom p.text ++ (s.data.toList ++ within_ q.atom q.text) = T := ⟨_, rfl⟩
  rw [hT'] at hc ⊢
  have HC := Lib.hid hc; have HF := Lib.hid hF0; clear hc hF0 h hk hT hp hq hlen hT'
  rcases hK with ⟨rfl, rfl⟩ | ⟨rfl, rfl⟩
  all_goals (
   go_enter Tryz.func38, Tryz.ntmps38
   go_wp2_with fail
   refine HC.out.mono ?_
   rintro e w1 ⟨rfl, h1, hF1⟩
   have H1 := Lib.hid h1; have HF1 := Lib.hid (HF.out.trans hF1); clear h1 hF1
   go_wp2_with fail
   go_end0
   exact ⟨rfl, H1.out, HF1.out⟩)
theorem rex_ok (p : Pat) (hs : p.Small) : WSpec 38 p p.text := by
 induction p with
 | none_ => exact rex_leaf .none_ ⟨#[40, 41]⟩ (.inl ⟨rfl, rfl⟩)
 | set s =>
   have := rex_leaf (.set s) ⟨s.toArray⟩ (.inr (.inr (by simp)))
   simpa [Pat.text] using this
 | any_ => exact rex_leaf .any_ ⟨#[97, 110, 121]⟩ (.inr (.inl ⟨rfl, rfl⟩))
 | cat a b iha ihb =>
   intro B bb l w v hT h hlen hBw
   exact rex_two a b 4 ⟨#[32]⟩ (.inl ⟨rfl, rfl⟩) (rexWithin_ok a (iha hs.1)) (rexWithin_ok b (ihb hs.2)) B bb l w v hT h hlen hBw
 | alt a b iha ihb =>
   intro B bb l w v hT h hlen hBw
   exact rex_two a b 5 ⟨#[32, 124, 32]⟩ (.inr ⟨rfl, rfl⟩) (rexWithin_ok a (iha hs.1)) (rexWithin_ok b (ihb hs.2)) B bb l w v hT h hlen hBw
 | star a ih =>
   intro B bb l w v hT h hlen hBw
   exact rex_one a 6 (.inl rfl) 0 0 0 [42] (rexWithin_ok a (ih hs)) (fun B b l w nm A n c h hl hB => behind_star B b l w 6 0 0 0 nm A n c rfl h hl hB) B bb l w v hT h hlen hBw
 | times a lo hi ih =>
   intro B bb l w v hT h hlen hBw
   exact rex_one a 7 (.inr (.inl rfl)) lo hi 0 _ (rexWithin_ok a (ih hs.1)) (fun B b l w nm A n c h hl hB => behind_times B b l w 7 0 lo hi nm A n c rfl hs.2.1 hs.2.2 h hl hB) B bb l w v hT h hlen hBw
 | weight a x ih =>
   intro B bb l w v hT h hlen hBw
   exact rex_one a 8 (.inr (.inr rfl)) 0 0 x _ (rexWithin_ok a (ih hs.1)) (fun B b l w nm A n c h hl hB => behind_weight B b l w 8 0 0 x nm A n c rfl hs.2 h hl hB) B bb l w v hT h hlen hBw
end Go.Proofs.YtalgnnidhnhciaaGreatDoor
