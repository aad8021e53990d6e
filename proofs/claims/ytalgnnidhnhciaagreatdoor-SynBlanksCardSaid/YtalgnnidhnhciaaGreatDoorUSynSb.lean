/- Contract of syn's reading of one set with its name. Contracts of syn's reading of patterns: what is shared; where a part begins; a part by itself. Contracts of syn's reading of patterns: a part by itself. -/
import Derived.Test.YtalgnnidhnhciaaGreatDoorUSynX
set_option linter.unusedVariables false
set_option linter.unusedSimpArgs false
set_option maxRecDepth 100000
set_option maxHeartbeats 8000000
namespace Go.Proofs.YtalgnnidhnhciaaGreatDoor
open Go Go.RowKit
attribute [local go_sem] field_sign2 field_sign3
def ReadsD (w : World) (b : Nat) (s : ByteArray) (y : Rd (Bs × Tree)) (df rl : Value) (e : Ending) (w' : World) : Prop :=
 ∃ (nm0 : ByteArray) (k lo hi : Int) (nm : ByteArray) (A : Option Addr) (n c : Nat), e = .returned (.agg #[.string nm0, .int .i64 k, .int .i64 lo, .int .i64 hi, .string nm, .slice A n c]) /\
   (∀ d ts, y = .ok (d, ts) -> nm0.data.toList = d.1 /\ TreeV false w' (fun g => w.heap.size <= g) (.agg #[.int .i64 k, .int .i64 lo, .int .i64 hi, .string nm, .slice A n c]) d.2) /\ St w' b s y.st df rl 0 /\ w.grownBy w' (some b)
theorem def_chain (F : Nat) (D : List Bs) (ts : Toks) :
  (defR F D ts).st = ((((freshX D (nxt ts)).on (tk 61)).into (lvlC F D 12).1).st.on (tk 59)) /\
  ∀ d t, defR F D ts = .ok (d, t) -> ∃ t1 t2 t4, nxt ts = .ok t1 /\ freshX D (nxt ts) = .ok t2 /\ d.1 = (hd t1).word /\ ((freshX D (nxt ts)).on (tk 61)).into (lvlC F D 12).1 = .ok (d.2, t4) := by
  unfold defR
  cases h1 : nxt ts with
  | error e => exact ⟨rfl, fun d t e => by cases e⟩
  | ok t1 =>
    rw [into_ok]
    by_cases hc : (kd t1 == 258 && D.contains (hd t1).word) = true
    ·have hf : freshX D (.ok t1) = .error (9, t1) := by simp only [freshX, X.on, hc, if_true]
     rw [if_pos hc, hf]
     exact ⟨rfl, fun d t e => by cases e⟩
    ·have hf : freshX D (.ok t1) = tk 258 t1 := by simp only [freshX, X.on, hc]; rfl
     rw [if_neg hc, hf]
     cases h2 : tk 258 t1 with
     | error e => exact ⟨rfl, fun d t e => by cases e⟩
     | ok t2 =>
       rw [into_ok]
       show ((tk 61 t2).into _).st = (((tk 61 t2).into _).st.on _) /\ ∀ d t, (tk 61 t2).into _ = _ -> _
       cases h3 : tk 61 t2 with
       | error e => exact ⟨rfl, fun d t e => by cases e⟩
       | ok t3 =>
         rw [into_ok]
         cases h4 : (lvlC F D 12).1 t3 with
         | error e =>
           refine ⟨?_, fun d t e => by cases e⟩
           rw [into_ok, h4]; rfl
         | ok p =>
           obtain ⟨c, t4⟩ := p
           rw [then_ok, into_ok, h4]
           refine ⟨give_st _ _, fun d t e => ?_⟩
           cases h5 : tk 59 t4 with
           | error z => rw [h5] at e; cases e
           | ok z => rw [h5] at e; cases e; exact ⟨t1, t2, t4, rfl, rfl, rfl, by rw [X.on, h3, into_ok, h4]⟩
theorem def_st (D : List Bs) {w : World} {b : Nat} {s : ByteArray} {ts : Toks} {df rl : Value} (h : St w b s (.ok ts) df rl 0) (hk : kd ts = 262) (hN : NamesB w b df D) :
  Calls Tryz.prog 75 #[.pointer (some ⟨b, 0, none⟩)] w (ReadsD w b s (defR (s.data.toList.length + 1) D ts) df rl) := by
  have hblt := h.blt
  obtain ⟨hc1, hc2⟩ := def_chain (s.data.toList.length + 1) D ts
  obtain ⟨F, hF⟩ : ∃ F, s.data.toList.length + 1 = F := ⟨_, rfl⟩
  have hcls : ∀ W x, St W b s x df rl 0 -> NamesB W b df D -> Calls Tryz.prog 100 #[.pointer (some ⟨b, 0, none⟩)] W (Reads_ false W b s (x.into (lvlC F D 12).1) df rl 0) := fun W x hW hNW => by
   have := class_st D hW hNW
   rw [hF] at this; exact this
  rw [hF] at hc1 hc2 ⊢
  obtain ⟨x1, hx1⟩ : ∃ x1, nxt ts = x1 := ⟨_, rfl⟩
  have htk := take_y (h.alloc (.cells #[.string ⟨#[]⟩, .int .i64 0, .int .i64 0, .int .i64 0, .string ⟨#[]⟩, .slice none 0 0] 37)) 262 x1 (by rw [<- hx1]; simp [X.on, tk, hk]) (by omega) (by omega) 262 rfl
  rw [hx1] at hc1 hc2
  obtain ⟨x2, hx2⟩ : ∃ x2, freshX D x1 = x2 := ⟨_, rfl⟩
  rw [hx2] at hc1 hc2
  obtain ⟨x3, hx3⟩ : ∃ x3, x2.on (tk 61) = x3 := ⟨_, rfl⟩
  rw [hx3] at hc1 hc2
  obtain ⟨y4, hy4⟩ : ∃ y4, x3.into (lvlC F D 12).1 = y4 := ⟨_, rfl⟩
  rw [hy4] at hc1 hc2
  obtain ⟨x5, hx5⟩ : ∃ x5, y4.st.on (tk 59) = x5 := ⟨_, rfl⟩
  rw [hx5] at hc1
  obtain ⟨Y, hY⟩ : ∃ Y, defR F D ts = Y := ⟨_, rfl⟩
  rw [hY] at hc1 hc2 ⊢
  have hN2 := hN.low.alloc (.cells #[.string ⟨#[]⟩, .int .i64 0, .int .i64 0, .int .i64 0, .string ⟨#[]⟩, .slice none 0 0] 37)
  have hB2 : Blk (w.alloc (.cells #[.string ⟨#[]⟩, .int .i64 0, .int .i64 0, .int .i64 0, .string ⟨#[]⟩, .slice none 0 0] 37)) w.heap.size 37 #[.string ⟨#[]⟩, .int .i64 0, .int .i64 0, .int .i64 0, .string ⟨#[]⟩, .slice none 0 0] := Blk.new _ _ _
  have hg0 : w.grownBy (w.alloc (.cells #[.string ⟨#[]⟩, .int .i64 0, .int .i64 0, .int .i64 0, .string ⟨#[]⟩, .slice none 0 0] 37)) (some b) := only_alloc (only_refl _ _) _
  have hz0 : (w.alloc (.cells #[.string ⟨#[]⟩, .int .i64 0, .int .i64 0, .int .i64 0, .string ⟨#[]⟩, .slice none 0 0] 37)).heap.size = w.heap.size + 1 := by simp
  have HTK := Lib.hid htk; have HC1 := Lib.hid hc1; have HC2 := Lib.hid hc2; have HCL := Lib.hid hcls; have HN := Lib.hid hN2; have HB := Lib.hid hB2; have HG := Lib.hid hg0; have HX2 := Lib.hid hx2; have HX3 := Lib.hid hx3; have HX5 := Lib.hid hx5; have HY4 := Lib.hid hy4; have HX1 := Lib.hid hx1; have HZ := Lib.hid hz0
  clear htk hc1 hc2 hcls hN2 hB2 hg0 hx1 hx2 hx3 hx5 hy4 hY hF hk h hN hz0
  go_enter Tryz.func75, Tryz.ntmps75
  go_wp2_with fail
  refine HTK.out.mono ?_
  rintro e w1 ⟨kk, aa, n1, wd1, lg1, rfl, -, hS1, hg1⟩
  have hfr := fresh_st hS1 (HN.out.grown hg1).names
  rw [HX2.out] at hfr
  have hN1 := HN.out.grown hg1
  have hB1 := Blk.grown HB.out hg1 (fun e => by injection e with e; omega)
  have hG1 := only_trans HG.out hg1
  have hz1 : w.heap.size < w1.heap.size := by have := hg1.size; rw [HZ.out] at this; omega
  have HFR := Lib.hid hfr; have HN1 := Lib.hid hN1; have HB1 := Lib.hid hB1; have HG1 := Lib.hid hG1
  clear hfr hN1 hB1 hG1 hS1 hg1 HN HB HG HTK HZ
  go_wp2_with fail
  refine HFR.out.mono ?_
  rintro e w2 ⟨wd, rfl, hwd, hS2, hg2⟩
  have hB2 := Blk.grown HB1.out hg2 (fun e => by injection e with e; omega)
  have hN2 := HN1.out.grown hg2
  have hG2 := only_trans HG1.out hg2
  have hz2 : w.heap.size < w2.heap.size := by have := hg2.size; omega
  have htk := take_y (hS2.alloc (.cells #[.string wd, .int .i64 0, .int .i64 0, .int .i64 0, .string ⟨#[]⟩, .slice none 0 0] 37)) 61 x3 HX3.out (by omega) (by omega) 61 rfl
  have hB2a := Blk.alloc hB2 (.cells #[.string wd, .int .i64 0, .int .i64 0, .int .i64 0, .string ⟨#[]⟩, .slice none 0 0] 37)
  have hV2 := Blk.new w2 37 #[.string wd, .int .i64 0, .int .i64 0, .int .i64 0, .string ⟨#[]⟩, .slice none 0 0]
  have hN2a := hN2.alloc (.cells #[.string wd, .int .i64 0, .int .i64 0, .int .i64 0, .string ⟨#[]⟩, .slice none 0 0] 37)
  have hG2a := only_alloc hG2 (.cells #[.string wd, .int .i64 0, .int .i64 0, .int .i64 0, .string ⟨#[]⟩, .slice none 0 0] 37)
  have HTK := Lib.hid htk; have HB2 := Lib.hid hB2a; have HV2 := Lib.hid hV2; have HN2 := Lib.hid hN2a; have HG2 := Lib.hid hG2a; have HWD := Lib.hid hwd
  clear htk hB2 hB2a hV2 hN2 hN2a hG2 hG2a hwd hS2 hg2 HB1 HN1 HG1 HFR hz1
  go_wp2_with fail
  refine HTK.out.mono ?_
  rintro e w3 ⟨kk3, aa3, n3, wd3, lg3, rfl, -, hS3, hg3⟩
  have hcl := HCL.out w3 x3 hS3 (HN2.out.grown hg3).names
  rw [HY4.out] at hcl
  have hB3 := Blk.grown HB2.out hg3 (fun e => by injection e with e; omega)
  have hV3 := Blk.grown HV2.out hg3 (fun e => by injection e with e; omega)
  have hG3 := only_trans HG2.out hg3
  have hz3 : w2.heap.size < w3.heap.size := Blk.lt hV3
  have HCL3 := Lib.hid hcl; have HB3 := Lib.hid hB3; have HV3 := Lib.hid hV3; have HG3 := Lib.hid hG3
  clear hcl hB3 hV3 hG3 hS3 hg3 HB2 HV2 HN2 HG2 HTK HCL
  go_wp2_with fail
  refine HCL3.out.mono ?_
  rintro e w4 ⟨v, rfl, hv, hT, hS4, hg4⟩
  obtain ⟨k, lo, hi, nm, A, n, c, rfl⟩ := hv.lit
  have hB4 := Blk.grown HB3.out hg4 (fun e => by injection e with e; omega)
  have hV4 := Blk.grown HV3.out hg4 (fun e => by injection e with e; omega)
  have hG4 := only_trans HG3.out hg4
  have fv := fun i => Blk.frozen hV4 i
  have v0 := Blk.cell hV4 0; have v1 := Blk.cell hV4 1; have v2 := Blk.cell hV4 2; have v3 := Blk.cell hV4 3; have v4 := Blk.cell hV4 4; have v5 := Blk.cell hV4 5
  simp only [List.getElem?_toArray, List.getElem?_cons_zero, List.getElem?_cons_succ] at v0 v1 v2 v3 v4 v5
  have hS4p := hS4.put (H := w2.heap.size) [.int .i64 k, .int .i64 lo, .int .i64 hi, .string nm, .slice A n c] 1 (by omega)
  have hB4p := Blk.put_far (H := w2.heap.size) [.int .i64 k, .int .i64 lo, .int .i64 hi, .string nm, .slice A n c] (by omega) 1 hB4
  have hV4p := Blk.put [.int .i64 k, .int .i64 lo, .int .i64 hi, .string nm, .slice A n c] 1 hV4
  have hG4p := only_put (H := w2.heap.size) [.int .i64 k, .int .i64 lo, .int .i64 hi, .string nm, .slice A n c] 1 hG4 (by omega)
  have hT4p : ∀ t ts, y4 = .ok (t, ts) -> TreeV false (putAt w4 w2.heap.size 1 [.int .i64 k, .int .i64 lo, .int .i64 hi, .string nm, .slice A n c]) (fun g => w3.heap.size <= g) (.agg #[.int .i64 k, .int .i64 lo, .int .i64 hi, .string nm, .slice A n c]) t := fun t ts e =>
   TreeV.put _ 1 (hT t ts e) (fun _ h => h) (fun g hg => by omega)
  have hz4 : w3.heap.size <= w4.heap.size := hg4.size
  simp [setMany] at hV4p
  have htk := take_y hS4p 59 x5 HX5.out (by omega) (by omega) 59 rfl
  simp only [putAt, Nat.reduceAdd] at htk hB4p hV4p hG4p hT4p
  have HTK := Lib.hid htk; have HB4 := Lib.hid hB4p; have HV4 := Lib.hid hV4p; have HG4 := Lib.hid hG4p; have HT4 := Lib.hid hT4p
  clear htk hB4 hB4p hV4 hV4p hG4 hG4p hT hT4p hS4 hS4p hg4 HB3 HV3 HG3 HCL3 hv
  go_wp2_with fail
  refine HTK.out.mono ?_
  rintro e w5 ⟨kk5, aa5, n5, wd5, lg5, rfl, -, hS5, hg5⟩
  have hB5 := Blk.grown HB4.out hg5 (fun e => by injection e with e; omega)
  have hV5 := Blk.grown HV4.out hg5 (fun e => by injection e with e; omega)
  have hG5 := only_trans HG4.out hg5
  have hT5 : ∀ t ts, y4 = .ok (t, ts) -> TreeV false w5 (fun g => w3.heap.size <= g) (.agg #[.int .i64 k, .int .i64 lo, .int .i64 hi, .string nm, .slice A n c]) t := fun t ts e =>
   (HT4.out t ts e).keep (fun _ h => h) (fun g hg i x hx => hg5.cell hx (fun e => by injection e with e; have e' : g = b := e; omega))
  clear v0 v1 v2 v3 v4 v5 fv
  have v0 := Blk.cell hV5 0; have v1 := Blk.cell hV5 1; have v2 := Blk.cell hV5 2; have v3 := Blk.cell hV5 3; have v4 := Blk.cell hV5 4; have v5 := Blk.cell hV5 5
  have r0 := Blk.cell hB5 0; have r1 := Blk.cell hB5 1; have r2 := Blk.cell hB5 2; have r3 := Blk.cell hB5 3; have r4 := Blk.cell hB5 4; have r5 := Blk.cell hB5 5
  simp only [List.getElem?_toArray, List.getElem?_cons_zero, List.getElem?_cons_succ] at v0 v1 v2 v3 v4 v5 r0 r1 r2 r3 r4 r5
  have fr := fun i => Blk.frozen hB5 i
  have hfin : ReadsD w b s Y df rl (.returned (.agg #[.string wd, .int .i64 k, .int .i64 lo, .int .i64 hi, .string nm, .slice A n c])) (putAt w5 w.heap.size 0 [.string wd, .int .i64 k, .int .i64 lo, .int .i64 hi, .string nm, .slice A n c]) := by
   refine ⟨wd, k, lo, hi, nm, A, n, c, rfl, fun d t e => ?_, ?_, ?_⟩
   ·obtain ⟨t1, t2, t4, e1, e2, e3, e4⟩ := HC2.out d t e
    exact ⟨by rw [e3]; exact HWD.out t1 t2 e1 e2, TreeV.put _ 0 (hT5 _ _ e4) (fun g hg => by omega) (fun g hg => by omega)⟩
   ·rw [HC1.out]
    exact hS5.put _ 0 (by omega)
   ·exact only_put _ 0 hG5 (Nat.le_refl _)
  simp only [putAt, Nat.reduceAdd] at hfin
  have HFN := Lib.hid hfin
  clear hfin hS5 hg5 hT5 hG5 hB5 hV5
  go_wp2_with fail
  refine bodyPost_ret (v := .agg #[.string wd, .int .i64 k, .int .i64 lo, .int .i64 hi, .string nm, .slice A n c]) (by simp [results, Tryz.results75, go_sem, r0, r1, r2, r3, r4, r5]) rfl ?_
  exact HFN.out
end Go.Proofs.YtalgnnidhnhciaaGreatDoor
namespace Go.Proofs.YtalgnnidhnhciaaGreatDoor
open Go Go.RowKit
attribute [local go_sem] field_sign2 field_sign3
def sixAt (W : World) (H : Nat) (a1 a2 a3 a4 a5 a6 : Value) : World :=
 (((((W.setCell ⟨H, 0, none⟩ a1).setCell ⟨H, 1, none⟩ a2).setCell ⟨H, 2, none⟩ a3).setCell ⟨H, 3, none⟩ a4).setCell ⟨H, 4, none⟩ a5).setCell ⟨H, 5, none⟩ a6
section
variable {w W : World} {b H : Nat} {s : ByteArray} {x : X} {df rl : Value} {dp : Int} {a1 a2 a3 a4 a5 a6 : Value}
theorem sixAt_eq : sixAt W H a1 a2 a3 a4 a5 a6 = (fiveAt W H a1 a2 a3 a4 a5).setCell ⟨H, 5, none⟩ a6 := rfl
theorem St.six (h : St W b s x df rl dp) (hH : b < H) : St (sixAt W H a1 a2 a3 a4 a5 a6) b s x df rl dp := (h.five hH).far (q := ⟨H, 5, none⟩) hH _
theorem only_six {row : Option Nat} (h : w.grownBy W row) (hH : w.heap.size <= H) : w.grownBy (sixAt W H a1 a2 a3 a4 a5 a6) row := only_new (only_five h hH) (p := ⟨H, 5, none⟩) hH _
theorem six_cell (b o : Nat) (hne : b ≠ H) : (sixAt W H a1 a2 a3 a4 a5 a6).cell? ⟨b, o, none⟩ = W.cell? ⟨b, o, none⟩ := by
 rw [sixAt_eq, World.cell?_setCell_other _ _ _ _ (fun e => hne (by injection e with e1; exact e1.symm))]
 exact five_cell b o hne
theorem TreeV.six {r : Bool} {S S' : Nat -> Prop} {v : Value} {t : Tree} (h : TreeV r W S v t) (hS : ∀ g, S g -> S' g) (hne : ∀ g, S g -> g ≠ H) : TreeV r (sixAt W H a1 a2 a3 a4 a5 a6) S' v t :=
 h.keep hS (fun g hg i x hx => by rw [six_cell g i (hne g hg)]; exact hx)
theorem Blk.six {t : TypeId} {c1 c2 c3 c4 c5 c6 : Value} (h : Blk W H t #[c1, c2, c3, c4, c5, c6]) : Blk (sixAt W H a1 a2 a3 a4 a5 a6) H t #[a1, a2, a3, a4, a5, a6] := by
 have := Blk.set_ (Blk.set_ (Blk.set_ (Blk.set_ (Blk.set_ (Blk.set_ h 0 a1) 1 a2) 2 a3) 3 a4) 4 a5) 5 a6
 simpa [sixAt] using this
theorem Blk.six_far {t : TypeId} {cs : Array Value} {g : Nat} (h : Blk W g t cs) (hne : g ≠ H) : Blk (sixAt W H a1 a2 a3 a4 a5 a6) g t cs := Blk.far (Blk.five_far h hne) (p := ⟨H, 5, none⟩) hne _
theorem NamesW.six {B : Nat} {D : List Bs} (h : NamesW B W b df D) (hH : B <= H) : NamesW B (sixAt W H a1 a2 a3 a4 a5 a6) b df D := h.keep fun g _ hlt i y hy => by rw [six_cell g i (by omega)]; exact hy
end
theorem headV_true (k lo hi wt : Int) (s : ByteArray) (A : Option Addr) (n c : Nat) : HeadV true (.agg #[.int .i64 k, .int .i64 lo, .int .i64 hi, .int .i64 wt, .string s, .slice A n c]) := ⟨k, lo, hi, wt, s, A, n, c, rfl⟩
theorem HeadV.lit6 {v : Value} (h : HeadV true v) : ∃ (k lo hi wt : Int) (s : ByteArray) (A : Option Addr) (n c : Nat), v = .agg #[.int .i64 k, .int .i64 lo, .int .i64 hi, .int .i64 wt, .string s, .slice A n c] := by
 obtain ⟨k, lo, hi, wt, s, A, n, c, e⟩ := h
 exact ⟨k, lo, hi, wt, s, A, n, c, e⟩
theorem reads_six {w W : World} {b H2 : Nat} {s : ByteArray} {y : Rd Tree} {df rl : Value} {dp : Int} {k lo hi wt : Int} {nm : ByteArray} {A : Option Addr} {n c : Nat} (hblt : b < H2) (hH : w.heap.size <= H2) (h1 : St W b s y.st df rl dp) (h2 : w.grownBy W (some b))
  (h3 : ∀ t ts, y = .ok (t, ts) -> TreeV true W (fun g => H2 < g) (.agg #[.int .i64 k, .int .i64 lo, .int .i64 hi, .int .i64 wt, .string nm, .slice A n c]) t) :
  Reads_ true w b s y df rl dp (.returned (.agg #[.int .i64 k, .int .i64 lo, .int .i64 hi, .int .i64 wt, .string nm, .slice A n c])) (sixAt W H2 (.int .i64 k) (.int .i64 lo) (.int .i64 hi) (.int .i64 wt) (.string nm) (.slice A n c)) :=
  ⟨_, rfl, headV_true _ _ _ _ _ _ _ _, fun t ts e => (h3 t ts e).six (fun g hg => by omega) (fun g hg => Nat.ne_of_gt hg), h1.six hblt, only_six h2 hH⟩
theorem trees_one6 {W : World} {N : Nat} {T : TypeId} {S : Nat -> Prop} {k lo hi wt : Int} {nm : ByteArray} {A : Option Addr} {n c : Nat} {t : Tree} (h : Blk W N T #[.int .i64 k, .int .i64 lo, .int .i64 hi, .int .i64 wt, .string nm, .slice A n c])
  (ht : TreeV true W S (.agg #[.int .i64 k, .int .i64 lo, .int .i64 hi, .int .i64 wt, .string nm, .slice A n c]) t) : TreesAt true W S N 0 [t] := by
  rw [TreesAt, TreesAt]
  refine ⟨TreeV.laid (k := k) (lo := lo) (hi := hi) (wt := wt) (s := nm) (A := A) (n := n) (c := c) ht (cellsAt_blk h ?_), trivial⟩
  intro i v hv
  rw [Nat.zero_add]
  rcases i with _ | _ | _ | _ | _ | _ | i <;> simp_all [headC]
theorem trees_two6 {W : World} {N : Nat} {T : TypeId} {S : Nat -> Prop} {k lo hi wt k' lo' hi' wt' : Int} {nm nm' : ByteArray} {A A' : Option Addr} {n c n' c' : Nat} {t t' : Tree}
  (h : Blk W N T #[.int .i64 k, .int .i64 lo, .int .i64 hi, .int .i64 wt, .string nm, .slice A n c, .int .i64 k', .int .i64 lo', .int .i64 hi', .int .i64 wt', .string nm', .slice A' n' c'])
  (ht : TreeV true W S (.agg #[.int .i64 k, .int .i64 lo, .int .i64 hi, .int .i64 wt, .string nm, .slice A n c]) t) (ht' : TreeV true W S (.agg #[.int .i64 k', .int .i64 lo', .int .i64 hi', .int .i64 wt', .string nm', .slice A' n' c']) t') : TreesAt true W S N 0 [t, t'] := by
  rw [TreesAt, TreesAt, TreesAt]
  refine ⟨TreeV.laid (k := k) (lo := lo) (hi := hi) (wt := wt) (s := nm) (A := A) (n := n) (c := c) ht (cellsAt_blk h ?_),
   TreeV.laid (k := k') (lo := lo') (hi := hi') (wt := wt') (s := nm') (A := A') (n := n') (c := c') ht' (cellsAt_blk h ?_), trivial⟩
  ·intro i v hv
   rw [Nat.zero_add]
   rcases i with _ | _ | _ | _ | _ | _ | i <;> simp_all [headC]
  ·intro i v hv
   rcases i with _ | _ | _ | _ | _ | _ | i <;> simp_all [headC, sz]
def begX (x : X) : Bool := match x with | .ok ts => begB ts | .error _ => false
theorem begX_iff (x : X) : begX x = true ↔ (kX x = 258 \/ kX x = 261 \/ kX x = 46 \/ kX x = 40) := by
 cases x with
 | error e => simp [begX, kX]
 | ok ts => simp only [begX, kX, begB, Bool.or_eq_true, beq_iff_eq]; omega
theorem begins_st {w : World} {b : Nat} {s : ByteArray} {x : X} {df rl : Value} {dp : Int} (wg : Bool) (h : St w b s x df rl dp) :
  Calls Tryz.prog 153 #[.agg #[.pointer (some ⟨b, 0, none⟩), .bool wg]] w fun e w' => e = .returned (.bool (begX x)) /\ Below w.heap.size w w' := by
  have hblt := h.blt
  have c2 := h.kind
  have hbx := begX_iff x
  obtain ⟨B, hB⟩ : ∃ B, begX x = B := ⟨_, rfl⟩
  rw [hB] at hbx ⊢
  have HBX := Lib.hid hbx; clear hbx hB h
  obtain ⟨K, hK⟩ : ∃ K, kX x = K := ⟨_, rfl⟩
  rw [hK] at c2 HBX
  clear hK
  have fin : ∀ W, W = w.alloc (.cells #[.pointer (some ⟨b, 0, none⟩), .bool wg] 148) -> Below w.heap.size w W := fun W e => by rw [e]; exact (Below.refl _ _).alloc (Nat.le_refl _) _
  have FIN := Lib.hid fin; clear fin
  by_cases k0 : K = 258
  ·have hbt : B = true := HBX.out.2 (.inl k0)
   subst k0; subst hbt
   go_enter Tryz.func153, Tryz.ntmps153
   go_wp2_with fail
   go_ret
   exact ⟨rfl, FIN.out _ rfl⟩
  have q0 : (K == 258) = false := by simpa using k0
  by_cases k1 : K = 261
  ·have hbt : B = true := HBX.out.2 (.inr (.inl k1))
   subst k1; subst hbt
   clear k0 q0
   go_enter Tryz.func153, Tryz.ntmps153
   go_wp2_with fail
   go_ret
   exact ⟨rfl, FIN.out _ rfl⟩
  have q1 : (K == 261) = false := by simpa using k1
  by_cases k2 : K = 46
  ·have hbt : B = true := HBX.out.2 (.inr (.inr (.inl k2)))
   subst k2; subst hbt
   clear k0 q0 k1 q1
   go_enter Tryz.func153, Tryz.ntmps153
   go_wp2_with fail
   go_ret
   exact ⟨rfl, FIN.out _ rfl⟩
  have q2 : (K == 46) = false := by simpa using k2
  by_cases k3 : K = 40
  ·have hbt : B = true := HBX.out.2 (.inr (.inr (.inr k3)))
   subst k3; subst hbt
   clear k0 q0 k1 q1 k2 q2
   go_enter Tryz.func153, Tryz.ntmps153
   go_wp2_with fail
   go_ret
   exact ⟨rfl, FIN.out _ rfl⟩
  have q3 : (K == 40) = false := by simpa using k3
  have hbt : B = false := by
   cases B with
   | false => rfl
   | true => rcases HBX.out.1 rfl with h | h | h | h <;> contradiction
  subst hbt
  clear k0 k1 k2 k3
  go_enter Tryz.func153, Tryz.ntmps153
  go_wp2_with fail
  go_ret
  exact ⟨rfl, FIN.out _ rfl⟩
end Go.Proofs.YtalgnnidhnhciaaGreatDoor
namespace Go.Proofs.YtalgnnidhnhciaaGreatDoor
open Go Go.RowKit
attribute [local go_sem] field_sign2 field_sign3
def SpecS (f : Nat) (D : List Bs) (wg : Bool) (sel : Nat -> Toks -> Rd Tree) (dp : Int) (P : Toks -> Prop) : Prop :=
 ∀ (w : World) (b : Nat) (s : ByteArray) (ts : Toks) (df rl : Value), P ts -> St w b s (.ok ts) df rl dp -> NamesB w b df D ->
   Calls Tryz.prog f #[.agg #[.pointer (some ⟨b, 0, none⟩), .bool wg]] w (Reads_ true w b s (sel (s.data.toList.length + 1) ts) df rl dp)
def ErrSpecS (f : Nat) (D : List Bs) (wg : Bool) : Prop :=
 ∀ (w : World) (b : Nat) (s : ByteArray) (er : Nat × Toks) (df rl : Value) (dp : Int), St w b s (.error er) df rl dp -> NamesB w b df D ->
   Calls Tryz.prog f #[.agg #[.pointer (some ⟨b, 0, none⟩), .bool wg]] w (Reads_ true w b s (.error er) df rl dp)
theorem SpecS.all {f : Nat} {D : List Bs} {wg : Bool} {sel : Nat -> Toks -> Rd Tree} {dp : Int} (h : SpecS f D wg sel dp (fun _ => True)) (he : ErrSpecS f D wg) {w : World} {b : Nat} {s : ByteArray} {x : X} {df rl : Value} (hS : St w b s x df rl dp) (hN : NamesB w b df D) :
  Calls Tryz.prog f #[.agg #[.pointer (some ⟨b, 0, none⟩), .bool wg]] w (Reads_ true w b s (x.into (sel (s.data.toList.length + 1))) df rl dp) := by
  cases x with
  | ok ts => exact h w b s ts df rl trivial hS hN
  | error er => exact he w b s er df rl dp hS hN
structure Side0 (w : World) (b : Nat) (wg : Bool) (W : World) : Prop where
 gr : w.grownBy W (some b)
 box : Blk W w.heap.size 148 #[.pointer (some ⟨b, 0, none⟩), .bool wg]
 res : Blk W (w.heap.size + 1) 46 #[.int .i64 0, .int .i64 0, .int .i64 0, .int .i64 0, .string ⟨#[]⟩, .slice none 0 0]
 size : w.heap.size + 1 < W.heap.size
theorem Side0.mk' (w : World) (b : Nat) (wg : Bool) : Side0 w b wg ((w.alloc (.cells #[.pointer (some ⟨b, 0, none⟩), .bool wg] 148)).alloc (.cells #[.int .i64 0, .int .i64 0, .int .i64 0, .int .i64 0, .string ⟨#[]⟩, .slice none 0 0] 46)) /\ ((w.alloc (.cells #[.pointer (some ⟨b, 0, none⟩), .bool wg] 148)).alloc (.cells #[.int .i64 0, .int .i64 0, .int .i64 0, .int .i64 0, .string ⟨#[]⟩, .slice none 0 0] 46)).heap.size = w.heap.size + 2 := by
 have e : (w.alloc (.cells #[.pointer (some ⟨b, 0, none⟩), .bool wg] 148)).heap.size = w.heap.size + 1 := by simp
 have h := Blk.new (w.alloc (.cells #[.pointer (some ⟨b, 0, none⟩), .bool wg] 148)) 46 #[.int .i64 0, .int .i64 0, .int .i64 0, .int .i64 0, .string ⟨#[]⟩, .slice none 0 0]
 rw [e] at h
 exact ⟨⟨only_alloc (only_alloc (only_refl _ _) _) _, Blk.alloc (Blk.new _ _ _) _, h, by simp⟩, by simp⟩
theorem Side0.grown {w W W' : World} {b : Nat} {wg : Bool} (h : Side0 w b wg W) (hb : b < w.heap.size) (hg : W.grownBy W' (some b)) : Side0 w b wg W' :=
 ⟨only_trans h.gr hg, Blk.grown h.box hg (fun e => by injection e with e; omega), Blk.grown h.res hg (fun e => by injection e with e; omega), Nat.lt_of_lt_of_le h.size hg.size⟩
theorem Side0.alloc {w W : World} {b : Nat} {wg : Bool} (h : Side0 w b wg W) (o : Obj) : Side0 w b wg (W.alloc o) :=
 ⟨only_alloc h.gr o, Blk.alloc h.box o, Blk.alloc h.res o, by have := h.size; simp; omega⟩
theorem Side0.six {w W : World} {b H : Nat} {wg : Bool} {a1 a2 a3 a4 a5 a6 : Value} (h : Side0 w b wg W) (hH : w.heap.size + 1 < H) : Side0 w b wg (sixAt W H a1 a2 a3 a4 a5 a6) :=
 ⟨only_six h.gr (by omega), Blk.six_far h.box (by omega), Blk.six_far h.res (by omega), by have := h.size; simpa [sixAt, World.setCell] using this⟩
theorem bare_ok (D : List Bs) (wg : Bool) (d : Nat) (hd12 : d <= 12) (hei : ∀ d', d = d' + 1 -> SpecS 101 D wg (fun F => rexR F D wg d') (12 - d') (fun _ => True)) (herr : ErrSpecS 101 D wg) :
  SpecS 179 D wg (fun F => bareR D (lvlE F D wg d)) (12 - d) (fun ts => begB ts = true) := by
  intro w b s ts df rl hbeg h hN
  have hblt := h.blt
  obtain ⟨h0, hz⟩ := Side0.mk' w b wg
  have h2 := (h.alloc (.cells #[.pointer (some ⟨b, 0, none⟩), .bool wg] 148)).alloc (.cells #[.int .i64 0, .int .i64 0, .int .i64 0, .int .i64 0, .string ⟨#[]⟩, .slice none 0 0] 46)
  have hN2 := (hN.alloc (.cells #[.pointer (some ⟨b, 0, none⟩), .bool wg] 148)).alloc (.cells #[.int .i64 0, .int .i64 0, .int .i64 0, .int .i64 0, .string ⟨#[]⟩, .slice none 0 0] 46)
  have c2 := h2.kind
  have hkx : kX (.ok ts) = (kd ts : Int) := rfl
  rw [hkx] at c2
  have HS := Lib.hid h2; have HN := Lib.hid hN2; have H0 := Lib.hid h0; have HZ := Lib.hid hz
  clear h h2 hN hN2 h0 hz hkx
  by_cases k1 : kd ts = 258
  ·have hsel : bareR D (lvlE (s.data.toList.length + 1) D wg d) ts = (knownX D ts).give (rSet (hd ts).word) := by unfold bareR; rw [if_pos (by simp [k1])]
   have hc := known_ok HS.out k1 HN.out
   have q : ((kd ts : Int) == 258) = true := by simp; omega
   have HC := Lib.hid hc; have HSEL := Lib.hid hsel; clear hc hsel k1 hei herr hbeg
   go_enter Tryz.func179, Tryz.ntmps179
   go_wp2_with fail
   refine HC.out.mono ?_
   rintro e w1 ⟨wd, rfl, hT, hS1, hg1⟩
   have h1 := H0.out.grown hblt hg1
   have r0 := Blk.cell h1.res 0; have r1 := Blk.cell h1.res 1; have r2 := Blk.cell h1.res 2; have r3 := Blk.cell h1.res 3; have r4 := Blk.cell h1.res 4; have r5 := Blk.cell h1.res 5
   simp only [List.getElem?_toArray, List.getElem?_cons_zero, List.getElem?_cons_succ] at r0 r1 r2 r3 r4 r5
   have fr := fun i => Blk.frozen h1.res i
   have hfin := reads_six (y := (knownX D ts).give (rSet (hd ts).word)) (k := 2) (lo := 0) (hi := 0) (wt := 0) (nm := wd) (A := none) (n := 0) (c := 0) (H2 := w.heap.size + 1) (w := w) (by omega) (by omega) (by rw [give_st]; exact hS1) h1.gr (fun t ts' e => by
    cases hq : knownX D ts with
    | error z => rw [hq] at e; cases e
    | ok z =>
      rw [hq] at e; cases e
      have e3 := hT ts ts' rfl hq
      have := TreeV.leaf true w1 (fun g => w.heap.size + 1 < g) 2 0 0 0 wd (fun e => by cases e)
      rw [e3] at this
      exact this)
   have HFN := Lib.hid hfin; clear hfin hS1 hg1 hT
   go_wp2_with fail
   refine bodyPost_ret (v := .agg #[.int .i64 2, .int .i64 0, .int .i64 0, .int .i64 0, .string wd, .slice none 0 0]) (by simp [results, Tryz.results179, go_sem, r0, r1, r2, r3, r4, r5]) rfl ?_
   have := HFN.out
   rw [<- HSEL.out] at this
   exact this
  have q1 : ((kd ts : Int) == 258) = false := by simp; omega
  by_cases k3 : kd ts = 40
  ·obtain ⟨x1, y1, hx1, hsel, hcl⟩ : ∃ (x1 : X) (y1 : Rd Tree), entX (12 - (d : Int)) ts = x1 /\ bareR D (lvlE (s.data.toList.length + 1) D wg d) ts = (y1.then_ fun c t1 => (tk 41 t1).give c) /\
       ∀ W, St W b s x1 df rl (12 - (d : Int) + 1) -> NamesB W b df D -> Calls Tryz.prog 101 #[.agg #[.pointer (some ⟨b, 0, none⟩), .bool wg]] W (Reads_ true W b s y1 df rl (12 - (d : Int) + 1)) := by
     cases d with
     | zero =>
       refine ⟨.error (2, ts), .error (2, ts), by simp [entX], ?_, fun W hW hNW => herr W b s _ df rl _ hW hNW⟩
       unfold bareR
       rw [if_neg (by simp [k3]), if_pos (by simp [k3])]; rfl
     | succ d' =>
       refine ⟨nxt ts, (nxt ts).into (rexR (s.data.toList.length + 1) D wg d'), ?_, ?_, fun W hW hNW => ?_⟩
       ·unfold entX; rw [if_neg (by omega)]
       ·unfold bareR
        rw [if_neg (by simp [k3]), if_pos (by simp [k3])]; rfl
       ·have e : (12 - ((d' + 1 : Nat) : Int) + 1) = 12 - (d' : Int) := by omega
        rw [e] at hW ⊢
        exact SpecS.all (hei d' rfl) herr hW hNW
   have hc := enter_st HS.out (by omega) (by omega) (by omega)
   rw [hx1] at hc
   have q : ((kd ts : Int) == 40) = true := by simp; omega
   have d0 : (0 : Int) <= 12 - (d : Int) := by omega
   have d1 : 12 - (d : Int) <= 12 := by omega
   have hst := then_st y1 41 (fun c : Tree => c)
   have HST := Lib.hid hst; have HCL := Lib.hid hcl
   have HC := Lib.hid hc; have HSEL := Lib.hid hsel; clear hc hsel hx1 hcl hst k1 k3 hei herr hbeg
   generalize hDP : 12 - (d : Int) = dp at *
   clear hDP
   have bx0 := Blk.cell H0.out.box 0; have bx1 := Blk.cell H0.out.box 1
   simp only [List.getElem?_toArray, List.getElem?_cons_zero, List.getElem?_cons_succ] at bx0 bx1
   go_enter Tryz.func179, Tryz.ntmps179
   go_wp2_with fail
   refine HC.out.mono ?_
   rintro e w1 ⟨rfl, hS1, hg1⟩
   have h1 := H0.out.grown hblt hg1
   have hcl1 := HCL.out w1 hS1 (HN.out.grown hg1)
   have by0 := Blk.cell h1.box 0; have by1 := Blk.cell h1.box 1
   simp only [List.getElem?_toArray, List.getElem?_cons_zero, List.getElem?_cons_succ] at by0 by1
   have hz1 := h1.size
   have HCL1 := Lib.hid hcl1; have H1 := Lib.hid h1; clear hS1 hg1 hcl1 h1
   go_wp2_with fail
   refine HCL1.out.mono ?_
   rintro e w2 ⟨v, rfl, hv, hT, hS2, hg2⟩
   obtain ⟨k, lo, hi, wt, nm, A, n, c, rfl⟩ := hv.lit6
   have h2 := H1.out.grown hblt hg2
   have htk := take_y (hS2.alloc (.cells #[.int .i64 k, .int .i64 lo, .int .i64 hi, .int .i64 wt, .string nm, .slice A n c] 46)) 41 (y1.st.on (tk 41)) rfl (by omega) (by omega) 41 rfl
   have hz2 : w1.heap.size <= w2.heap.size := hg2.size
   have bz0 := Blk.cell h2.box 0; have bz1 := Blk.cell h2.box 1
   simp only [List.getElem?_toArray, List.getElem?_cons_zero, List.getElem?_cons_succ] at bz0 bz1
   have HTK := Lib.hid htk; have HT := Lib.hid hT; have H2 := Lib.hid h2
   have hlb : w.heap.size < w2.heap.size := by omega
   clear htk hT hS2 hg2 h2 hv
   go_wp2_with fail
   refine HTK.out.mono ?_
   rintro e w3 ⟨kk, aa, n3, wd3, lg3, rfl, -, hS3, hg3⟩
   have hb3 : Blk w3 w2.heap.size 46 #[.int .i64 k, .int .i64 lo, .int .i64 hi, .int .i64 wt, .string nm, .slice A n c] := Blk.grown (Blk.new w2 _ _) hg3 (fun e => by injection e with e; omega)
   have h3 := (H2.out.alloc (.cells #[.int .i64 k, .int .i64 lo, .int .i64 hi, .int .i64 wt, .string nm, .slice A n c] 46)).grown hblt hg3
   have hT3 : ∀ t ts', y1 = .ok (t, ts') -> TreeV true w3 (fun g => w.heap.size + 1 < g /\ g ≠ b) (.agg #[.int .i64 k, .int .i64 lo, .int .i64 hi, .int .i64 wt, .string nm, .slice A n c]) t := fun t ts' e =>
    (HT.out t ts' e).keep (fun g hg => ⟨by omega, by omega⟩) (fun g hg i x hx => hg3.cell (by rw [World.cell?_alloc_past _ _ _ (World.block_lt_of_cell? w2 _ hx)]; exact hx) (fun e => by injection e with e; have e' : g = b := e; omega))
   have hlv := leave_st hS3 (by omega) (by omega)
   have bw0 := Blk.cell h3.box 0; have bw1 := Blk.cell h3.box 1
   simp only [List.getElem?_toArray, List.getElem?_cons_zero, List.getElem?_cons_succ] at bw0 bw1
   have HLV := Lib.hid hlv; have HB3 := Lib.hid hb3; have HT3 := Lib.hid hT3; have H3 := Lib.hid h3
   clear hlv hb3 hT3 hS3 hg3 h3
   go_wp2_with fail
   refine HLV.out.mono ?_
   rintro e w4 ⟨rfl, hS4, hg4⟩
   have hb4 := Blk.grown HB3.out hg4 (fun e => by injection e with e; omega)
   have h1 := H3.out.grown hblt hg4
   have v0 := Blk.cell hb4 0; have v1 := Blk.cell hb4 1; have v2 := Blk.cell hb4 2; have v3 := Blk.cell hb4 3; have v4 := Blk.cell hb4 4; have v5 := Blk.cell hb4 5
   simp only [List.getElem?_toArray, List.getElem?_cons_zero, List.getElem?_cons_succ] at v0 v1 v2 v3 v4 v5
   have r0 := Blk.cell h1.res 0; have r1 := Blk.cell h1.res 1; have r2 := Blk.cell h1.res 2; have r3 := Blk.cell h1.res 3; have r4 := Blk.cell h1.res 4; have r5 := Blk.cell h1.res 5
   simp only [List.getElem?_toArray, List.getElem?_cons_zero, List.getElem?_cons_succ] at r0 r1 r2 r3 r4 r5
   have fr := fun i => Blk.frozen h1.res i
   have e1 : dp + 1 - 1 = dp := by omega
   rw [e1] at hS4
   have hfin := reads_six (y := y1.then_ fun c t1 => (tk 41 t1).give c) (k := k) (lo := lo) (hi := hi) (wt := wt) (nm := nm) (A := A) (n := n) (c := c) (H2 := w.heap.size + 1) (w := w) (by omega) (by omega) (by rw [HST.out]; exact hS4) h1.gr (fun t ts' e => by
    obtain ⟨t1, hy1⟩ : ∃ t1, y1 = .ok (t, t1) := by
     cases y1 with
     | error z => cases e
     | ok p =>
       obtain ⟨c', t1⟩ := p
       simp only [then_ok] at e
       cases hq : tk 41 t1 with
       | error z => rw [hq] at e; cases e
       | ok z => rw [hq] at e; cases e; exact ⟨t1, rfl⟩
    exact (HT3.out t t1 hy1).keep (fun g hg => hg.1) (fun g hg i x hx => hg4.cell hx (fun e => by injection e with e; exact hg.2 e)))
   have HFN := Lib.hid hfin; clear hfin hb4 hS4 hg4 e1
   go_wp2_with fail
   refine bodyPost_ret (v := .agg #[.int .i64 k, .int .i64 lo, .int .i64 hi, .int .i64 wt, .string nm, .slice A n c]) (by simp [results, Tryz.results179, go_sem, r0, r1, r2, r3, r4, r5]) rfl ?_
   have := HFN.out
   rw [<- HSEL.out] at this
   exact this
  have q3 : ((kd ts : Int) == 40) = false := by simp; omega
  have hk256 : kd ts ≠ 256 := by
   intro e
   simp [begB, e] at hbeg
  have hsel : bareR D (lvlE (s.data.toList.length + 1) D wg d) ts = (nxt ts).give rAny := by unfold bareR; rw [if_neg (by simp [k1]), if_neg (by simp [k3])]
  have hc := step_st HS.out hk256
  have HC := Lib.hid hc; have HSEL := Lib.hid hsel; clear hc hsel k1 k3 hei herr hbeg hk256
  have bx0 := Blk.cell H0.out.box 0; have bx1 := Blk.cell H0.out.box 1
  simp only [List.getElem?_toArray, List.getElem?_cons_zero, List.getElem?_cons_succ] at bx0 bx1
  go_enter Tryz.func179, Tryz.ntmps179
  go_wp2_with fail
  refine HC.out.mono ?_
  rintro e w1 ⟨rfl, hS1, hg1⟩
  have h1 := H0.out.grown hblt hg1
  have r0 := Blk.cell h1.res 0; have r1 := Blk.cell h1.res 1; have r2 := Blk.cell h1.res 2; have r3 := Blk.cell h1.res 3; have r4 := Blk.cell h1.res 4; have r5 := Blk.cell h1.res 5
  simp only [List.getElem?_toArray, List.getElem?_cons_zero, List.getElem?_cons_succ] at r0 r1 r2 r3 r4 r5
  have fr := fun i => Blk.frozen h1.res i
  have hfin := reads_six (y := (nxt ts).give rAny) (k := 3) (lo := 0) (hi := 0) (wt := 0) (nm := ⟨#[]⟩) (A := none) (n := 0) (c := 0) (H2 := w.heap.size + 1) (w := w) (by omega) (by omega) (by rw [give_st]; exact hS1) h1.gr (fun t ts' e => by
   cases hq : nxt ts with
   | error z => rw [hq] at e; cases e
   | ok z =>
     rw [hq] at e; cases e
     exact TreeV.leaf true w1 (fun g => w.heap.size + 1 < g) 3 0 0 0 ⟨#[]⟩ (fun e => by cases e))
  have HFN := Lib.hid hfin; clear hfin hS1 hg1
  go_wp2_with fail
  refine bodyPost_ret (v := .agg #[.int .i64 3, .int .i64 0, .int .i64 0, .int .i64 0, .string ⟨#[]⟩, .slice none 0 0]) (by simp [results, Tryz.results179, go_sem, r0, r1, r2, r3, r4, r5]) rfl ?_
  have := HFN.out
  rw [<- HSEL.out] at this
  exact this
end Go.Proofs.YtalgnnidhnhciaaGreatDoor
