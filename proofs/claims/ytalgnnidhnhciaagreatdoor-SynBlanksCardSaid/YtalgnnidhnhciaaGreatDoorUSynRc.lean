/- Contracts of syn's reading of patterns: how often, and what it costs besides. -/
import Derived.Test.YtalgnnidhnhciaaGreatDoorUSynSb
set_option linter.unusedVariables false
set_option linter.unusedSimpArgs false
set_option maxRecDepth 100000
set_option maxHeartbeats 8000000
namespace Go.Proofs.YtalgnnidhnhciaaGreatDoor
open Go Go.RowKit
attribute [local go_sem] field_sign2 field_sign3
def ReadsM (w : World) (b : Nat) (s : ByteArray) (S : Nat -> Prop) (y : Rd Tree) (df rl : Value) (dp : Int) (e : Ending) (w' : World) : Prop :=
 ∃ v, e = .returned v /\ HeadV true v /\ (∀ t ts, y = .ok (t, ts) -> TreeV true w' (fun g => S g \/ w.heap.size <= g) v t) /\ St w' b s y.st df rl dp /\ w.grownBy w' (some b)
structure Side1 (w : World) (b : Nat) (wg : Bool) (k lo hi wt : Int) (nm : ByteArray) (A : Option Addr) (n c : Nat) (W : World) : Prop where
 gr : w.grownBy W (some b)
 box : Blk W w.heap.size 148 #[.pointer (some ⟨b, 0, none⟩), .bool wg]
 var : Blk W (w.heap.size + 1) 46 #[.int .i64 k, .int .i64 lo, .int .i64 hi, .int .i64 wt, .string nm, .slice A n c]
 res : Blk W (w.heap.size + 1 + 1) 46 #[.int .i64 0, .int .i64 0, .int .i64 0, .int .i64 0, .string ⟨#[]⟩, .slice none 0 0]
 size : w.heap.size + 1 + 1 < W.heap.size
section
variable {w W W' : World} {b : Nat} {wg : Bool} {k lo hi wt : Int} {nm : ByteArray} {A : Option Addr} {n c : Nat}
theorem Side1.mk' (w : World) (b : Nat) (wg : Bool) (k lo hi wt : Int) (nm : ByteArray) (A : Option Addr) (n c : Nat) : Side1 w b wg k lo hi wt nm A n c (((w.alloc (.cells #[.pointer (some ⟨b, 0, none⟩), .bool wg] 148)).alloc (.cells #[.int .i64 k, .int .i64 lo, .int .i64 hi, .int .i64 wt, .string nm, .slice A n c] 46)).alloc (.cells #[.int .i64 0, .int .i64 0, .int .i64 0, .int .i64 0, .string ⟨#[]⟩, .slice none 0 0] 46)) := by
 have e : (w.alloc (.cells #[.pointer (some ⟨b, 0, none⟩), .bool wg] 148)).heap.size = w.heap.size + 1 := by simp
 have e2 : ((w.alloc (.cells #[.pointer (some ⟨b, 0, none⟩), .bool wg] 148)).alloc (.cells #[.int .i64 k, .int .i64 lo, .int .i64 hi, .int .i64 wt, .string nm, .slice A n c] 46)).heap.size = w.heap.size + 1 + 1 := by simp
 have h := Blk.new (w.alloc (.cells #[.pointer (some ⟨b, 0, none⟩), .bool wg] 148)) 46 #[.int .i64 k, .int .i64 lo, .int .i64 hi, .int .i64 wt, .string nm, .slice A n c]
 have h2 := Blk.new ((w.alloc (.cells #[.pointer (some ⟨b, 0, none⟩), .bool wg] 148)).alloc (.cells #[.int .i64 k, .int .i64 lo, .int .i64 hi, .int .i64 wt, .string nm, .slice A n c] 46)) 46 #[.int .i64 0, .int .i64 0, .int .i64 0, .int .i64 0, .string ⟨#[]⟩, .slice none 0 0]
 rw [e] at h
 rw [e2] at h2
 exact ⟨only_alloc (only_alloc (only_alloc (only_refl _ _) _) _) _, Blk.alloc (Blk.alloc (Blk.new _ _ _) _) _, Blk.alloc h _, h2, by simp⟩
theorem Side1.grown (h : Side1 w b wg k lo hi wt nm A n c W) (hb : b < w.heap.size) (hg : W.grownBy W' (some b)) : Side1 w b wg k lo hi wt nm A n c W' :=
 ⟨only_trans h.gr hg, Blk.grown h.box hg (fun e => by injection e with e; omega), Blk.grown h.var hg (fun e => by injection e with e; omega), Blk.grown h.res hg (fun e => by injection e with e; omega), Nat.lt_of_lt_of_le h.size hg.size⟩
theorem Side1.fin (h : Side1 w b wg k lo hi wt nm A n c W) (hb : b < w.heap.size) {s : ByteArray} {S : Nat -> Prop} {y : Rd Tree} {df rl : Value} {dp : Int} {k' lo' hi' wt' : Int} {t0 : Tree} (hS : ∀ g, S g -> g < w.heap.size /\ g ≠ b) (hT : TreeV true w S (.agg #[.int .i64 k, .int .i64 lo, .int .i64 hi, .int .i64 wt, .string nm, .slice A n c]) t0)
  (hst : St W b s y.st df rl dp) (hy : ∀ t ts, y = .ok (t, ts) -> t = .mk k' lo' hi' wt' [] [t0]) :
  ReadsM w b s S y df rl dp (.returned (.agg #[.int .i64 k', .int .i64 lo', .int .i64 hi', .int .i64 wt', .string ⟨#[]⟩, .slice (some ⟨W.heap.size, 0, none⟩) 1 1]))
   ((sixAt W (w.heap.size + 1 + 1) (.int .i64 k') (.int .i64 lo') (.int .i64 hi') (.int .i64 wt') (.string ⟨#[]⟩) (.slice (some ⟨W.heap.size, 0, none⟩) 1 1)).alloc (.cells #[.int .i64 k, .int .i64 lo, .int .i64 hi, .int .i64 wt, .string nm, .slice A n c] 46)) := by
  have hz := h.size
  have hsz : (sixAt W (w.heap.size + 1 + 1) (.int .i64 k') (.int .i64 lo') (.int .i64 hi') (.int .i64 wt') (.string ⟨#[]⟩) (.slice (some ⟨W.heap.size, 0, none⟩) 1 1)).heap.size = W.heap.size := by simp [sixAt, World.setCell]
  have hg6 := only_six (H := w.heap.size + 1 + 1) (a1 := .int .i64 k') (a2 := .int .i64 lo') (a3 := .int .i64 hi') (a4 := .int .i64 wt') (a5 := .string ⟨#[]⟩) (a6 := .slice (some ⟨W.heap.size, 0, none⟩) 1 1) h.gr (by omega)
  have hs6 := St.six (H := w.heap.size + 1 + 1) (a1 := .int .i64 k') (a2 := .int .i64 lo') (a3 := .int .i64 hi') (a4 := .int .i64 wt') (a5 := .string ⟨#[]⟩) (a6 := .slice (some ⟨W.heap.size, 0, none⟩) 1 1) hst (by omega)
  have ht6 : ∀ g, S g -> ∀ i x, w.cell? ⟨g, i, none⟩ = some x -> (sixAt W (w.heap.size + 1 + 1) (.int .i64 k') (.int .i64 lo') (.int .i64 hi') (.int .i64 wt') (.string ⟨#[]⟩) (.slice (some ⟨W.heap.size, 0, none⟩) 1 1)).cell? ⟨g, i, none⟩ = some x := fun g hg i x hx =>
   hg6.cell hx (fun e => by injection e with e; exact (hS g hg).2 e)
  refine ⟨_, rfl, headV_true _ _ _ _ _ _ _ _, fun t ts e => ?_, hs6.alloc _, only_alloc hg6 _⟩
  rw [hy t ts e]
  generalize sixAt W (w.heap.size + 1 + 1) (.int .i64 k') (.int .i64 lo') (.int .i64 hi') (.int .i64 wt') (.string ⟨#[]⟩) (.slice (some ⟨W.heap.size, 0, none⟩) 1 1) = W6 at *
  have hN := Blk.new W6 46 #[.int .i64 k, .int .i64 lo, .int .i64 hi, .int .i64 wt, .string nm, .slice A n c]
  rw [hsz] at hN
  have h1 : TreeV true (W6.alloc (.cells #[.int .i64 k, .int .i64 lo, .int .i64 hi, .int .i64 wt, .string nm, .slice A n c] 46)) (fun g => S g \/ w.heap.size <= g) (.agg #[.int .i64 k, .int .i64 lo, .int .i64 hi, .int .i64 wt, .string nm, .slice A n c]) t0 := hT.keep (fun g hg => .inl hg) (fun g hg i x hx => by
   have h2 := ht6 g hg i x hx
   rw [World.cell?_alloc_past _ _ _ (World.block_lt_of_cell? W6 _ h2)]; exact h2)
  exact TreeV.node true _ (fun g => S g \/ w.heap.size <= g) k' lo' hi' wt' W.heap.size 1 [t0] (fun e => by cases e) rfl (by omega) (.inr (by omega)) (trees_one6 hN h1)
end
theorem times_st {w : World} {b : Nat} {s : ByteArray} {ts : Toks} {df rl : Value} {dp : Int} (wg : Bool) {k lo hi wt : Int} {nm : ByteArray} {A : Option Addr} {n c : Nat} {S : Nat -> Prop} {t0 : Tree} (h : St w b s (.ok ts) df rl dp) (hk : kd ts = 123)
  (hS : ∀ g, S g -> g < w.heap.size /\ g ≠ b) (hT : TreeV true w S (.agg #[.int .i64 k, .int .i64 lo, .int .i64 hi, .int .i64 wt, .string nm, .slice A n c]) t0) :
  Calls Tryz.prog 180 #[.agg #[.pointer (some ⟨b, 0, none⟩), .bool wg], .agg #[.int .i64 k, .int .i64 lo, .int .i64 hi, .int .i64 wt, .string nm, .slice A n c]] w (ReadsM w b s S (timesX t0 ts) df rl dp) := by
  have hblt := h.blt
  have h0 := Side1.mk' w b wg k lo hi wt nm A n c
  have h2 := ((h.alloc (.cells #[.pointer (some ⟨b, 0, none⟩), .bool wg] 148)).alloc (.cells #[.int .i64 k, .int .i64 lo, .int .i64 hi, .int .i64 wt, .string nm, .slice A n c] 46)).alloc (.cells #[.int .i64 0, .int .i64 0, .int .i64 0, .int .i64 0, .string ⟨#[]⟩, .slice none 0 0] 46)
  have ht1 := take_y h2 123 (nxt ts) (by simp [tk, hk]) (by omega) (by omega) 123 rfl
  have HT1 := Lib.hid ht1; have H0 := Lib.hid h0; have HSS := Lib.hid hS; have HTT := Lib.hid hT
  have bx0 := Blk.cell h0.box 0; have bx1 := Blk.cell h0.box 1
  simp only [List.getElem?_toArray, List.getElem?_cons_zero, List.getElem?_cons_succ] at bx0 bx1
  clear ht1 h0 h2 h hS hT
  go_enter Tryz.func180, Tryz.ntmps180
  go_wp2_with fail
  refine HT1.out.mono ?_
  rintro e w1 ⟨kk1, aa1, n1, wd1, lg1, rfl, -, hS1, hg1⟩
  have h1 := H0.out.grown hblt hg1
  have hz1 := h1.size
  have by0 := Blk.cell h1.box 0; have by1 := Blk.cell h1.box 1
  simp only [List.getElem?_toArray, List.getElem?_cons_zero, List.getElem?_cons_succ] at by0 by1
  obtain ⟨x2, hx2⟩ : ∃ x2, (nxt ts).on (tk 259) = x2 := ⟨_, rfl⟩
  have ht2 := take_y hS1 259 x2 hx2 (by omega) (by omega) 259 rfl
  have HT2 := Lib.hid ht2; have H1 := Lib.hid h1; have HX2 := Lib.hid hx2
  clear ht2 hS1 hg1 h1 hx2 HT1 H0 bx0 bx1
  go_wp2_with fail
  refine HT2.out.mono ?_
  rintro e w2 ⟨kk2, aa2, LO, wd2, lg2, rfl, hlo, hS2, hg2⟩
  have h2 := H1.out.grown hblt hg2
  have hz2 := h2.size
  have bz0 := Blk.cell h2.box 0; have bz1 := Blk.cell h2.box 1
  simp only [List.getElem?_toArray, List.getElem?_cons_zero, List.getElem?_cons_succ] at bz0 bz1
  obtain ⟨x3, hx3⟩ : ∃ x3, x2.on (tk 44) = x3 := ⟨_, rfl⟩
  have ht3 := take_y hS2 44 x3 hx3 (by omega) (by omega) 44 rfl
  have HT3 := Lib.hid ht3; have H2 := Lib.hid h2; have HX3 := Lib.hid hx3; have HLO := Lib.hid hlo
  clear ht3 hS2 hg2 h2 hx3 hlo HT2 H1 by0 by1
  go_wp2_with fail
  refine HT3.out.mono ?_
  rintro e w3 ⟨kk3, aa3, n3, wd3, lg3, rfl, -, hS3, hg3⟩
  have h3 := H2.out.grown hblt hg3
  have hz3 := h3.size
  have b30 := Blk.cell h3.box 0; have b31 := Blk.cell h3.box 1
  simp only [List.getElem?_toArray, List.getElem?_cons_zero, List.getElem?_cons_succ] at b30 b31
  have c2 := hS3.kind
  obtain ⟨N3, c5, hN3⟩ := hS3.num
  have H3 := Lib.hid h3; have HS3 := Lib.hid hS3; have HN3 := Lib.hid hN3
  clear h3 hS3 hg3 hN3 HT3 H2 bz0 bz1
  -- what is told, by the signs behind the comma
  have hto : timesX t0 ts = x3.into fun t3 => (if kd t3 == 259 && Nat.blt 12 (hd t3).n then .error (2, t3) else if kd t3 == 259 && Nat.blt (hd t3).n (hd ts.tail).n then .error (1, t3) else (tk 259 t3).into fun t4 => (tk 125 t4).give (rTimes t0 (hd ts.tail).n (hd t3).n)) := by
   unfold timesX
   rw [<- HX3.out, <- HX2.out]
   cases hq : nxt ts with
   | error z => rfl
   | ok t1 =>
     have e1 := nxt_tail hq
     rw [into_ok, on_ok, <- e1]
     cases hq2 : tk 259 t1 with
     | error z => rfl
     | ok t2 =>
       rw [into_ok, on_ok]
       try (cases tk 44 t2 <;> rfl)
  have hlo : ∀ t3, x3 = .ok t3 -> LO = (hd ts.tail).n := fun t3 e => by
   have h1 := HX3.out; have h2 := HX2.out
   rw [e] at h1
   cases hq : nxt ts with
   | error z => rw [hq] at h2; rw [<- h2] at h1; cases h1
   | ok t1 =>
     have e1 := nxt_tail hq
     by_cases hk1 : kd t1 = 259
     ·have := (HLO.out t1 hq hk1).2
      rw [this, e1]
     ·rw [hq, on_ok] at h2
      have : tk 259 t1 = .error (1, t1) := by simp [tk, hk1]
      rw [this] at h2; rw [<- h2] at h1; cases h1
  have HTO := Lib.hid hto; have HL := Lib.hid hlo
  clear hto hlo HLO HX2 HX3
  by_cases k9 : kX x3 = 259
  ·obtain ⟨t3, rfl⟩ : ∃ t3, x3 = .ok t3 := by
    cases x3 with
    | ok t3 => exact ⟨t3, rfl⟩
    | error e => simp [kX] at k9
   have hk3 : kd t3 = 259 := Int.ofNat.inj k9
   have q0 : (kX (.ok t3) == 259) = true := by simpa using k9
   have hn3 := HN3.out t3 rfl
   by_cases g12 : 12 < N3
   ·have hy : timesX t0 ts = .error (2, t3) := by
     have : Nat.blt 12 (hd t3).n = true := blt_yes (by omega)
     rw [HTO.out, into_ok]; simp only [this]; simp [hk3]
    have HY := Lib.hid hy
    have hf := fail_st HS3.out 2 (by omega)
    rw [show ((2 : Nat) : Int) = 2 from rfl] at hf
    have HF := Lib.hid hf; clear hf hy hn3 k9
    go_wp2_with fail
    refine HF.out.mono ?_
    rintro e w4 ⟨rfl, hS4, hg4⟩
    have h4 := H3.out.grown hblt hg4
    have c2' := hS4.kind
    unfold kX at c2'
    simp only at c2'
    have hst7 : (Rd.st (.error (2, t3) : Rd Tree)) = ((X.on (.error (2, t3)) (tk 259)).on (tk 125)) := rfl
    have HST7 := Lib.hid hst7
    have ht6 := take_y hS4 259 (X.on (.error (2, t3)) (tk 259)) rfl (by omega) (by omega) 259 rfl
    have H5 := Lib.hid (show Side1 w b wg k lo hi wt nm A n c w4 from h4)
    have hz5 := H5.out.size
    have b50 := Blk.cell H5.out.box 0; have b51 := Blk.cell H5.out.box 1
    simp only [List.getElem?_toArray, List.getElem?_cons_zero, List.getElem?_cons_succ] at b50 b51
    have HT6 := Lib.hid ht6; clear hst7 ht6
    clear hS4 hg4 h4 b30 b31 H3 c2 c5 HS3
    go_wp2_with fail
    refine HT6.out.mono ?_
    rintro e w6 ⟨kk6, aa6, HI, wd6, lg6, rfl, hhi, hS6, hg6⟩
    have h6 := H5.out.grown hblt hg6
    have hz6 := h6.size
    have b60 := Blk.cell h6.box 0; have b61 := Blk.cell h6.box 1
    simp only [List.getElem?_toArray, List.getElem?_cons_zero, List.getElem?_cons_succ] at b60 b61
    have ht7 := take_y hS6 125 ((X.on (.error (2, t3)) (tk 259)).on (tk 125)) rfl (by omega) (by omega) 125 rfl
    have HT7 := Lib.hid ht7; have H6 := Lib.hid h6; have HHI := Lib.hid hhi
    clear ht7 h6 hhi hS6 hg6 b50 b51 HT6 H5
    go_wp2_with fail
    refine HT7.out.mono ?_
    rintro e w7 ⟨kk7, aa7, n7, wd7, lg7, rfl, -, hS7, hg7⟩
    have h7 := H6.out.grown hblt hg7
    have hz7 := h7.size
    have v0 := Blk.cell h7.var 0; have v1 := Blk.cell h7.var 1; have v2 := Blk.cell h7.var 2; have v3 := Blk.cell h7.var 3; have v4 := Blk.cell h7.var 4; have v5 := Blk.cell h7.var 5; have r0 := Blk.cell h7.res 0; have r1 := Blk.cell h7.res 1; have r2 := Blk.cell h7.res 2; have r3 := Blk.cell h7.res 3; have r4 := Blk.cell h7.res 4; have r5 := Blk.cell h7.res 5
    simp only [List.getElem?_toArray, List.getElem?_cons_zero, List.getElem?_cons_succ] at v0 v1 v2 v3 v4 v5 r0 r1 r2 r3 r4 r5
    have fr := fun i => Blk.frozen h7.res i
    have hfin := h7.fin (S := S) (y := (.error (2, t3) : Rd Tree)) (k' := 7) (lo' := LO) (hi' := HI) (wt' := 0) hblt HSS.out HTT.out (by rw [HST7.out]; exact hS7) (fun t ts e => by cases e)
    have HFN := Lib.hid hfin; clear hfin hS7 hg7 h7
    go_wp2_with fail
    refine bodyPost_ret (v := .agg #[.int .i64 7, .int .i64 LO, .int .i64 HI, .int .i64 0, .string ⟨#[]⟩, .slice (some ⟨w7.heap.size, 0, none⟩) 1 1]) (by simp [results, Tryz.results180, go_sem, World.cell?_alloc_past, hz7, r0, r1, r2, r3, r4, r5]) rfl ?_
    have := HFN.out
    rw [<- HY.out] at this
    exact this
   ·by_cases glo : N3 < LO
    ·have hy : timesX t0 ts = .error (1, t3) := by
      have e1 : Nat.blt 12 (hd t3).n = false := blt_no (by omega)
      have e2 : Nat.blt (hd t3).n (hd ts.tail).n = true := blt_yes (by have := HL.out t3 rfl; omega)
      rw [HTO.out, into_ok]; simp only [e1, e2]; simp [hk3]
     have HY := Lib.hid hy
     have hf := fail_st HS3.out 1 (by omega)
     rw [show ((1 : Nat) : Int) = 1 from rfl] at hf
     have HF := Lib.hid hf; clear hf hy hn3 k9
     go_wp2_with fail
     refine HF.out.mono ?_
     rintro e w4 ⟨rfl, hS4, hg4⟩
     have h4 := H3.out.grown hblt hg4
     have hst7 : (Rd.st (.error (1, t3) : Rd Tree)) = ((X.on (.error (1, t3)) (tk 259)).on (tk 125)) := rfl
     have HST7 := Lib.hid hst7
     have ht6 := take_y hS4 259 (X.on (.error (1, t3)) (tk 259)) rfl (by omega) (by omega) 259 rfl
     have H5 := Lib.hid (show Side1 w b wg k lo hi wt nm A n c w4 from h4)
     have hz5 := H5.out.size
     have b50 := Blk.cell H5.out.box 0; have b51 := Blk.cell H5.out.box 1
     simp only [List.getElem?_toArray, List.getElem?_cons_zero, List.getElem?_cons_succ] at b50 b51
     have HT6 := Lib.hid ht6; clear hst7 ht6
     clear hS4 hg4 h4 b30 b31 H3 c2 c5 HS3
     go_wp2_with fail
     refine HT6.out.mono ?_
     rintro e w6 ⟨kk6, aa6, HI, wd6, lg6, rfl, hhi, hS6, hg6⟩
     have h6 := H5.out.grown hblt hg6
     have hz6 := h6.size
     have b60 := Blk.cell h6.box 0; have b61 := Blk.cell h6.box 1
     simp only [List.getElem?_toArray, List.getElem?_cons_zero, List.getElem?_cons_succ] at b60 b61
     have ht7 := take_y hS6 125 ((X.on (.error (1, t3)) (tk 259)).on (tk 125)) rfl (by omega) (by omega) 125 rfl
     have HT7 := Lib.hid ht7; have H6 := Lib.hid h6; have HHI := Lib.hid hhi
     clear ht7 h6 hhi hS6 hg6 b50 b51 HT6 H5
     go_wp2_with fail
     refine HT7.out.mono ?_
     rintro e w7 ⟨kk7, aa7, n7, wd7, lg7, rfl, -, hS7, hg7⟩
     have h7 := H6.out.grown hblt hg7
     have hz7 := h7.size
     have v0 := Blk.cell h7.var 0; have v1 := Blk.cell h7.var 1; have v2 := Blk.cell h7.var 2; have v3 := Blk.cell h7.var 3; have v4 := Blk.cell h7.var 4; have v5 := Blk.cell h7.var 5; have r0 := Blk.cell h7.res 0; have r1 := Blk.cell h7.res 1; have r2 := Blk.cell h7.res 2; have r3 := Blk.cell h7.res 3; have r4 := Blk.cell h7.res 4; have r5 := Blk.cell h7.res 5
     simp only [List.getElem?_toArray, List.getElem?_cons_zero, List.getElem?_cons_succ] at v0 v1 v2 v3 v4 v5 r0 r1 r2 r3 r4 r5
     have fr := fun i => Blk.frozen h7.res i
     have hfin := h7.fin (S := S) (y := (.error (1, t3) : Rd Tree)) (k' := 7) (lo' := LO) (hi' := HI) (wt' := 0) hblt HSS.out HTT.out (by rw [HST7.out]; exact hS7) (fun t ts e => by cases e)
     have HFN := Lib.hid hfin; clear hfin hS7 hg7 h7
     go_wp2_with fail
     refine bodyPost_ret (v := .agg #[.int .i64 7, .int .i64 LO, .int .i64 HI, .int .i64 0, .string ⟨#[]⟩, .slice (some ⟨w7.heap.size, 0, none⟩) 1 1]) (by simp [results, Tryz.results180, go_sem, World.cell?_alloc_past, hz7, r0, r1, r2, r3, r4, r5]) rfl ?_
     have := HFN.out
     rw [<- HY.out] at this
     exact this
    ·have hy : timesX t0 ts = ((tk 259 t3).into fun t4 => (tk 125 t4).give (rTimes t0 (hd ts.tail).n (hd t3).n)) := by
      have e1 : Nat.blt 12 (hd t3).n = false := blt_no (by omega)
      have e2 : Nat.blt (hd t3).n (hd ts.tail).n = false := blt_no (by have := HL.out t3 rfl; omega)
      rw [HTO.out, into_ok]; simp only [e1, e2]; simp
     have HY := Lib.hid hy
     have hlo3 := HL.out t3 rfl
     have HLO3 := Lib.hid hlo3; have HK3 := Lib.hid hk3
     clear hy hn3 k9 hlo3 hk3
     have hst7 : (Rd.st (((tk 259 t3).into fun t4 => (tk 125 t4).give (rTimes t0 (hd ts.tail).n (hd t3).n)) : Rd Tree)) = ((X.on (.ok t3) (tk 259)).on (tk 125)) := by
      rw [on_ok]
      cases tk 259 t3 with
      | error z => rfl
      | ok t4 =>
        rw [into_ok, on_ok, give_st]
     have HST7 := Lib.hid hst7
     have ht6 := take_y HS3.out 259 (X.on (.ok t3) (tk 259)) rfl (by omega) (by omega) 259 rfl
     have H5 := Lib.hid (show Side1 w b wg k lo hi wt nm A n c w3 from H3.out)
     have hz5 := H5.out.size
     have b50 := Blk.cell H5.out.box 0; have b51 := Blk.cell H5.out.box 1
     simp only [List.getElem?_toArray, List.getElem?_cons_zero, List.getElem?_cons_succ] at b50 b51
     have HT6 := Lib.hid ht6; clear hst7 ht6
     go_wp2_with fail
     refine HT6.out.mono ?_
     rintro e w6 ⟨kk6, aa6, HI, wd6, lg6, rfl, hhi, hS6, hg6⟩
     have h6 := H5.out.grown hblt hg6
     have hz6 := h6.size
     have b60 := Blk.cell h6.box 0; have b61 := Blk.cell h6.box 1
     simp only [List.getElem?_toArray, List.getElem?_cons_zero, List.getElem?_cons_succ] at b60 b61
     have ht7 := take_y hS6 125 ((X.on (.ok t3) (tk 259)).on (tk 125)) rfl (by omega) (by omega) 125 rfl
     have HT7 := Lib.hid ht7; have H6 := Lib.hid h6; have HHI := Lib.hid hhi
     clear ht7 h6 hhi hS6 hg6 b50 b51 HT6 H5
     go_wp2_with fail
     refine HT7.out.mono ?_
     rintro e w7 ⟨kk7, aa7, n7, wd7, lg7, rfl, -, hS7, hg7⟩
     have h7 := H6.out.grown hblt hg7
     have hz7 := h7.size
     have v0 := Blk.cell h7.var 0; have v1 := Blk.cell h7.var 1; have v2 := Blk.cell h7.var 2; have v3 := Blk.cell h7.var 3; have v4 := Blk.cell h7.var 4; have v5 := Blk.cell h7.var 5; have r0 := Blk.cell h7.res 0; have r1 := Blk.cell h7.res 1; have r2 := Blk.cell h7.res 2; have r3 := Blk.cell h7.res 3; have r4 := Blk.cell h7.res 4; have r5 := Blk.cell h7.res 5
     simp only [List.getElem?_toArray, List.getElem?_cons_zero, List.getElem?_cons_succ] at v0 v1 v2 v3 v4 v5 r0 r1 r2 r3 r4 r5
     have fr := fun i => Blk.frozen h7.res i
     have hfin := h7.fin (S := S) (y := (((tk 259 t3).into fun t4 => (tk 125 t4).give (rTimes t0 (hd ts.tail).n (hd t3).n)) : Rd Tree)) (k' := 7) (lo' := LO) (hi' := HI) (wt' := 0) hblt HSS.out HTT.out (by rw [HST7.out]; exact hS7) (fun t ts' e => by
      have e1 := (HHI.out t3 rfl HK3.out).2
      cases hq : tk 259 t3 with
      | error z => rw [hq] at e; cases e
      | ok t4 =>
        rw [hq, into_ok] at e
        cases hq2 : tk 125 t4 with
        | error z => rw [hq2] at e; cases e
        | ok z => rw [hq2] at e; cases e; rw [e1, HLO3.out]; rfl)
     have HFN := Lib.hid hfin; clear hfin hS7 hg7 h7
     go_wp2_with fail
     refine bodyPost_ret (v := .agg #[.int .i64 7, .int .i64 LO, .int .i64 HI, .int .i64 0, .string ⟨#[]⟩, .slice (some ⟨w7.heap.size, 0, none⟩) 1 1]) (by simp [results, Tryz.results180, go_sem, World.cell?_alloc_past, hz7, r0, r1, r2, r3, r4, r5]) rfl ?_
     have := HFN.out
     rw [<- HY.out] at this
     exact this
  ·have q0 : (kX x3 == 259) = false := by simpa using k9
   have hy : ∃ er, timesX t0 ts = .error er /\ (x3.on (tk 259)).on (tk 125) = .error er := by
    rw [HTO.out]
    cases x3 with
    | error e => exact ⟨e, rfl, rfl⟩
    | ok t3 =>
      have hk3 : kd t3 ≠ 259 := fun e => k9 (by simp [kX, e])
      exact ⟨(1, t3), by rw [into_ok]; simp [hk3, tk]; rfl, by simp [tk, hk3]; rfl⟩
   obtain ⟨er, hy, hy2⟩ := hy
   have HY := Lib.hid hy; have HY2 := Lib.hid hy2; clear hy hy2 k9
   have hst7 : (Rd.st (.error er : Rd Tree)) = ((X.on (x3) (tk 259)).on (tk 125)) := HY2.out.symm
   have HST7 := Lib.hid hst7
   have ht6 := take_y HS3.out 259 (X.on (x3) (tk 259)) rfl (by omega) (by omega) 259 rfl
   have H5 := Lib.hid (show Side1 w b wg k lo hi wt nm A n c w3 from H3.out)
   have hz5 := H5.out.size
   have b50 := Blk.cell H5.out.box 0; have b51 := Blk.cell H5.out.box 1
   simp only [List.getElem?_toArray, List.getElem?_cons_zero, List.getElem?_cons_succ] at b50 b51
   have HT6 := Lib.hid ht6; clear hst7 ht6
   go_wp2_with fail
   refine HT6.out.mono ?_
   rintro e w6 ⟨kk6, aa6, HI, wd6, lg6, rfl, hhi, hS6, hg6⟩
   have h6 := H5.out.grown hblt hg6
   have hz6 := h6.size
   have b60 := Blk.cell h6.box 0; have b61 := Blk.cell h6.box 1
   simp only [List.getElem?_toArray, List.getElem?_cons_zero, List.getElem?_cons_succ] at b60 b61
   have ht7 := take_y hS6 125 ((X.on (x3) (tk 259)).on (tk 125)) rfl (by omega) (by omega) 125 rfl
   have HT7 := Lib.hid ht7; have H6 := Lib.hid h6; have HHI := Lib.hid hhi
   clear ht7 h6 hhi hS6 hg6 b50 b51 HT6 H5
   go_wp2_with fail
   refine HT7.out.mono ?_
   rintro e w7 ⟨kk7, aa7, n7, wd7, lg7, rfl, -, hS7, hg7⟩
   have h7 := H6.out.grown hblt hg7
   have hz7 := h7.size
   have v0 := Blk.cell h7.var 0; have v1 := Blk.cell h7.var 1; have v2 := Blk.cell h7.var 2; have v3 := Blk.cell h7.var 3; have v4 := Blk.cell h7.var 4; have v5 := Blk.cell h7.var 5; have r0 := Blk.cell h7.res 0; have r1 := Blk.cell h7.res 1; have r2 := Blk.cell h7.res 2; have r3 := Blk.cell h7.res 3; have r4 := Blk.cell h7.res 4; have r5 := Blk.cell h7.res 5
   simp only [List.getElem?_toArray, List.getElem?_cons_zero, List.getElem?_cons_succ] at v0 v1 v2 v3 v4 v5 r0 r1 r2 r3 r4 r5
   have fr := fun i => Blk.frozen h7.res i
   have hfin := h7.fin (S := S) (y := (.error er : Rd Tree)) (k' := 7) (lo' := LO) (hi' := HI) (wt' := 0) hblt HSS.out HTT.out (by rw [HST7.out]; exact hS7) (fun t ts e => by cases e)
   have HFN := Lib.hid hfin; clear hfin hS7 hg7 h7
   go_wp2_with fail
   refine bodyPost_ret (v := .agg #[.int .i64 7, .int .i64 LO, .int .i64 HI, .int .i64 0, .string ⟨#[]⟩, .slice (some ⟨w7.heap.size, 0, none⟩) 1 1]) (by simp [results, Tryz.results180, go_sem, World.cell?_alloc_past, hz7, r0, r1, r2, r3, r4, r5]) rfl ?_
   have := HFN.out
   rw [<- HY.out] at this
   exact this
end Go.Proofs.YtalgnnidhnhciaaGreatDoor
