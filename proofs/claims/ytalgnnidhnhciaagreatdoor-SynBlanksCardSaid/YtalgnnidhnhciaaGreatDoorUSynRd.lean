/- Contract of syn's reading of patterns: what one costs besides. -/
import Derived.Test.YtalgnnidhnhciaaGreatDoorUSynRc
import Derived.Deep.RegionHeld3
set_option linter.unusedVariables false
set_option linter.unusedSimpArgs false
set_option maxRecDepth 100000
set_option maxHeartbeats 8000000
namespace Go.Proofs.YtalgnnidhnhciaaGreatDoor
open Go Go.RowKit
attribute [local go_sem] field_sign2 field_sign3
theorem Side1.fin2 {w W : World} {b : Nat} {wg : Bool} {k lo hi wt : Int} {nm : ByteArray} {A : Option Addr} {n c : Nat} (h : Side1 w b wg k lo hi wt nm A n c W) (hb : b < w.heap.size) {s : ByteArray} {S : Nat -> Prop} {y : Rd Tree} {df rl : Value} {dp : Int} {k' lo' hi' wt' : Int} {t0 : Tree} {N : Nat}
  (hS : ∀ g, S g -> g < w.heap.size /\ g ≠ b) (hT : TreeV true w S (.agg #[.int .i64 k, .int .i64 lo, .int .i64 hi, .int .i64 wt, .string nm, .slice A n c]) t0) (hN : Blk W N 46 #[.int .i64 k, .int .i64 lo, .int .i64 hi, .int .i64 wt, .string nm, .slice A n c]) (hNz : w.heap.size + 1 + 1 < N)
  (hst : St W b s y.st df rl dp) (hy : ∀ t ts, y = .ok (t, ts) -> t = .mk k' lo' hi' wt' [] [t0]) :
  ReadsM w b s S y df rl dp (.returned (.agg #[.int .i64 k', .int .i64 lo', .int .i64 hi', .int .i64 wt', .string ⟨#[]⟩, .slice (some ⟨N, 0, none⟩) 1 1]))
   (sixAt W (w.heap.size + 1 + 1) (.int .i64 k') (.int .i64 lo') (.int .i64 hi') (.int .i64 wt') (.string ⟨#[]⟩) (.slice (some ⟨N, 0, none⟩) 1 1)) := by
  have hz := h.size
  have hg6 := only_six (H := w.heap.size + 1 + 1) (a1 := .int .i64 k') (a2 := .int .i64 lo') (a3 := .int .i64 hi') (a4 := .int .i64 wt') (a5 := .string ⟨#[]⟩) (a6 := .slice (some ⟨N, 0, none⟩) 1 1) h.gr (by omega)
  have hs6 := St.six (H := w.heap.size + 1 + 1) (a1 := .int .i64 k') (a2 := .int .i64 lo') (a3 := .int .i64 hi') (a4 := .int .i64 wt') (a5 := .string ⟨#[]⟩) (a6 := .slice (some ⟨N, 0, none⟩) 1 1) hst (by omega)
  have hN6 := Blk.six_far (H := w.heap.size + 1 + 1) (a1 := .int .i64 k') (a2 := .int .i64 lo') (a3 := .int .i64 hi') (a4 := .int .i64 wt') (a5 := .string ⟨#[]⟩) (a6 := .slice (some ⟨N, 0, none⟩) 1 1) hN (by omega)
  refine ⟨_, rfl, headV_true _ _ _ _ _ _ _ _, fun t ts e => ?_, hs6, hg6⟩
  rw [hy t ts e]
  have h1 : TreeV true (sixAt W (w.heap.size + 1 + 1) (.int .i64 k') (.int .i64 lo') (.int .i64 hi') (.int .i64 wt') (.string ⟨#[]⟩) (.slice (some ⟨N, 0, none⟩) 1 1)) (fun g => S g \/ w.heap.size <= g) (.agg #[.int .i64 k, .int .i64 lo, .int .i64 hi, .int .i64 wt, .string nm, .slice A n c]) t0 := hT.keep (fun g hg => .inl hg) (fun g hg i x hx => hg6.cell hx (fun e => by injection e with e; exact (hS g hg).2 e))
  exact TreeV.node true _ (fun g => S g \/ w.heap.size <= g) k' lo' hi' wt' N 1 [t0] (fun e => by cases e) rfl (by omega) (.inr (by omega)) (trees_one6 hN6 h1)
theorem weight_st {w : World} {b : Nat} {s : ByteArray} {ts : Toks} {df rl : Value} {dp : Int} (wg : Bool) {k lo hi wt : Int} {nm : ByteArray} {A : Option Addr} {n c : Nat} {S : Nat -> Prop} {t0 : Tree} (h : St w b s (.ok ts) df rl dp) (hk : kd ts = 64)
  (hS : ∀ g, S g -> g < w.heap.size /\ g ≠ b) (hT : TreeV true w S (.agg #[.int .i64 k, .int .i64 lo, .int .i64 hi, .int .i64 wt, .string nm, .slice A n c]) t0) :
  Calls Tryz.prog 181 #[.agg #[.pointer (some ⟨b, 0, none⟩), .bool wg], .agg #[.int .i64 k, .int .i64 lo, .int .i64 hi, .int .i64 wt, .string nm, .slice A n c]] w (ReadsM w b s S (weightX wg t0 ts) df rl dp) := by
  have hblt := h.blt
  have h0 := Side1.mk' w b wg k lo hi wt nm A n c
  have h2 := ((h.alloc (.cells #[.pointer (some ⟨b, 0, none⟩), .bool wg] 148)).alloc (.cells #[.int .i64 k, .int .i64 lo, .int .i64 hi, .int .i64 wt, .string nm, .slice A n c] 46)).alloc (.cells #[.int .i64 0, .int .i64 0, .int .i64 0, .int .i64 0, .string ⟨#[]⟩, .slice none 0 0] 46)
  have bx0 := Blk.cell h0.box 0; have bx1 := Blk.cell h0.box 1
  simp only [List.getElem?_toArray, List.getElem?_cons_zero, List.getElem?_cons_succ] at bx0 bx1
  have H0 := Lib.hid h0; have HS := Lib.hid h2; have HSS := Lib.hid hS; have HTT := Lib.hid hT
  clear h0 h2 h hS hT
  -- from the sign itself on: the place x1, what is told y
  have rest : ∀ (W : World) (x1 : X) (y : Rd Tree), St W b s x1 df rl dp -> Side1 w b wg k lo hi wt nm A n c W -> weightX wg t0 ts = y -> y.st = x1.on (tk 259) -> (∀ t ts', y = .ok (t, ts') -> ∃ t1, x1 = .ok t1 /\ kd t1 = 259 /\ t = rWeight t0 (hd t1).n) -> True := fun _ _ _ _ _ _ _ _ => trivial
  clear rest
  cases wg
  ·have hsel : weightX false t0 ts = .error (7, ts) := rfl
   have hf := fail_st HS.out 7 (by omega)
   rw [show ((7 : Nat) : Int) = 7 from rfl] at hf
   have HF := Lib.hid hf; have HSEL := Lib.hid hsel; clear hf hsel hk
   go_enter Tryz.func181, Tryz.ntmps181
   go_wp2_with fail
   refine HF.out.mono ?_
   rintro e w0 ⟨rfl, hS0, hg0⟩
   have h00 := H0.out.grown hblt hg0
   have ba0 := Blk.cell h00.box 0; have ba1 := Blk.cell h00.box 1
   simp only [List.getElem?_toArray, List.getElem?_cons_zero, List.getElem?_cons_succ] at ba0 ba1
   have ht1 := take_y hS0 64 (.error (7, ts)) rfl (by omega) (by omega) 64 rfl
   have HT1 := Lib.hid ht1; have H00 := Lib.hid h00; clear ht1 h00 hS0 hg0
   have hx : ∃ x1 : X, x1 = .error (7, ts) := ⟨_, rfl⟩
   obtain ⟨x1, hx1⟩ := hx
   have hyst : (Rd.st (.error (7, ts) : Rd Tree)) = x1.on (tk 259) := by rw [hx1]; rfl
   have hyv : ∀ t ts', (.error (7, ts) : Rd Tree) = .ok (t, ts') -> ∃ t1, x1 = .ok t1 /\ kd t1 = 259 /\ t = rWeight t0 (hd t1).n := fun t ts' e => by cases e
   rw [<- hx1] at HT1
   have HYST := Lib.hid hyst; have HYV := Lib.hid hyv; clear hyst hyv hx1
   go_wp2_with fail
   refine HT1.out.mono ?_
   rintro e w1 ⟨kk1, aa1, n1, wd1, lg1, rfl, -, hS1, hg1⟩
   have h1 := H00.out.grown hblt hg1
   have sOf : ∀ W : World, Side1 w b false k lo hi wt nm A n c W -> (fun w' : World => w'.cell? ⟨w.heap.size, 0, none⟩ = some (.pointer (some ⟨b, 0, none⟩)) /\ w'.cell? ⟨w.heap.size + 1, 0, none⟩ = some (.int .i64 k) /\ w'.cell? ⟨w.heap.size + 1, 1, none⟩ = some (.int .i64 lo) /\ w'.cell? ⟨w.heap.size + 1, 2, none⟩ = some (.int .i64 hi) /\ w'.cell? ⟨w.heap.size + 1, 3, none⟩ = some (.int .i64 wt) /\ w'.cell? ⟨w.heap.size + 1, 4, none⟩ = some (.string nm) /\ w'.cell? ⟨w.heap.size + 1, 5, none⟩ = some (.slice A n c)) W := fun W hW => by
    have v0 := Blk.cell hW.var 0; have v1 := Blk.cell hW.var 1; have v2 := Blk.cell hW.var 2; have v3 := Blk.cell hW.var 3; have v4 := Blk.cell hW.var 4; have v5 := Blk.cell hW.var 5; have c0 := Blk.cell hW.box 0
    simp only [List.getElem?_toArray, List.getElem?_cons_zero, List.getElem?_cons_succ] at v0 v1 v2 v3 v4 v5 c0
    exact ⟨c0, v0, v1, v2, v3, v4, v5⟩
   have six6 : ∀ W : World, Side1 w b false k lo hi wt nm A n c W -> ∀ a1 a2 a3 a4 a5 a6 : Value, (fun w' : World => w'.cell? ⟨w.heap.size, 0, none⟩ = some (.pointer (some ⟨b, 0, none⟩)) /\ w'.cell? ⟨w.heap.size + 1, 0, none⟩ = some (.int .i64 k) /\ w'.cell? ⟨w.heap.size + 1, 1, none⟩ = some (.int .i64 lo) /\ w'.cell? ⟨w.heap.size + 1, 2, none⟩ = some (.int .i64 hi) /\ w'.cell? ⟨w.heap.size + 1, 3, none⟩ = some (.int .i64 wt) /\ w'.cell? ⟨w.heap.size + 1, 4, none⟩ = some (.string nm) /\ w'.cell? ⟨w.heap.size + 1, 5, none⟩ = some (.slice A n c)) (sixAt W (w.heap.size + 1 + 1) a1 a2 a3 a4 a5 a6) := fun W hW a1 a2 a3 a4 a5 a6 => by
    have hb6 := Blk.six_far (H := w.heap.size + 1 + 1) (a1 := a1) (a2 := a2) (a3 := a3) (a4 := a4) (a5 := a5) (a6 := a6) hW.box (by omega)
    have hv6 := Blk.six_far (H := w.heap.size + 1 + 1) (a1 := a1) (a2 := a2) (a3 := a3) (a4 := a4) (a5 := a5) (a6 := a6) hW.var (by omega)
    have v0 := Blk.cell hv6 0; have v1 := Blk.cell hv6 1; have v2 := Blk.cell hv6 2; have v3 := Blk.cell hv6 3; have v4 := Blk.cell hv6 4; have v5 := Blk.cell hv6 5; have c0 := Blk.cell hb6 0
    simp only [List.getElem?_toArray, List.getElem?_cons_zero, List.getElem?_cons_succ] at v0 v1 v2 v3 v4 v5 c0
    exact ⟨c0, v0, v1, v2, v3, v4, v5⟩
   have six7 : ∀ W : World, Side1 w b false k lo hi wt nm A n c W -> ∀ (a1 a2 a3 a4 a5 a6 : Value) o, (fun w' : World => w'.cell? ⟨w.heap.size, 0, none⟩ = some (.pointer (some ⟨b, 0, none⟩)) /\ w'.cell? ⟨w.heap.size + 1, 0, none⟩ = some (.int .i64 k) /\ w'.cell? ⟨w.heap.size + 1, 1, none⟩ = some (.int .i64 lo) /\ w'.cell? ⟨w.heap.size + 1, 2, none⟩ = some (.int .i64 hi) /\ w'.cell? ⟨w.heap.size + 1, 3, none⟩ = some (.int .i64 wt) /\ w'.cell? ⟨w.heap.size + 1, 4, none⟩ = some (.string nm) /\ w'.cell? ⟨w.heap.size + 1, 5, none⟩ = some (.slice A n c)) ((sixAt W (w.heap.size + 1 + 1) a1 a2 a3 a4 a5 a6).alloc o) := fun W hW a1 a2 a3 a4 a5 a6 o => by
    have hb6 := Blk.alloc (Blk.six_far (H := w.heap.size + 1 + 1) (a1 := a1) (a2 := a2) (a3 := a3) (a4 := a4) (a5 := a5) (a6 := a6) hW.box (by omega)) o
    have hv6 := Blk.alloc (Blk.six_far (H := w.heap.size + 1 + 1) (a1 := a1) (a2 := a2) (a3 := a3) (a4 := a4) (a5 := a5) (a6 := a6) hW.var (by omega)) o
    have v0 := Blk.cell hv6 0; have v1 := Blk.cell hv6 1; have v2 := Blk.cell hv6 2; have v3 := Blk.cell hv6 3; have v4 := Blk.cell hv6 4; have v5 := Blk.cell hv6 5; have c0 := Blk.cell hb6 0
    simp only [List.getElem?_toArray, List.getElem?_cons_zero, List.getElem?_cons_succ] at v0 v1 v2 v3 v4 v5 c0
    exact ⟨c0, v0, v1, v2, v3, v4, v5⟩
   have SIX := Lib.hid six6; have SEV := Lib.hid six7; clear six6 six7
   have h1d : Side1 w b false k lo hi wt nm A n c w1.drew := ⟨only_drew h1.gr, h1.box, h1.var, h1.res, h1.size⟩
   have s1 := sOf _ h1
   have s1d := sOf _ h1d
   have al : ∀ W : World, Side1 w b false k lo hi wt nm A n c W -> ∀ o, Side1 w b false k lo hi wt nm A n c (W.alloc o) := fun W hW o => ⟨only_alloc hW.gr o, Blk.alloc hW.box o, Blk.alloc hW.var o, Blk.alloc hW.res o, by have := hW.size; simp; omega⟩
   have h1a := al _ h1 (.cells #[.int .i64 k, .int .i64 lo, .int .i64 hi, .int .i64 wt, .string nm, .slice A n c] 46)
   have h1ad : Side1 w b false k lo hi wt nm A n c (w1.alloc (.cells #[.int .i64 k, .int .i64 lo, .int .i64 hi, .int .i64 wt, .string nm, .slice A n c] 46)).drew := ⟨only_drew h1a.gr, h1a.box, h1a.var, h1a.res, h1a.size⟩
   have s1a := sOf _ h1a
   have s1ad := sOf _ h1ad
   have ht2 := take_y hS1.drew 259 (x1.on (tk 259)) rfl (by omega) (by omega) 259 rfl
   have ht3 := take_y (St.drew (hS1.alloc (.cells #[.int .i64 k, .int .i64 lo, .int .i64 hi, .int .i64 wt, .string nm, .slice A n c] 46))) 259 (x1.on (tk 259)) rfl (by omega) (by omega) 259 rfl
   have HT2 := Lib.hid ht2; have HT3 := Lib.hid ht3; have H1D := Lib.hid h1d; have H1AD := Lib.hid h1ad; have SOF := Lib.hid sOf; have AL := Lib.hid al
   have S1 := Lib.hid s1; have S1D := Lib.hid s1d; have S1A := Lib.hid s1a; have S1AD := Lib.hid s1ad
   have hNb : Blk (w1.alloc (.cells #[.int .i64 k, .int .i64 lo, .int .i64 hi, .int .i64 wt, .string nm, .slice A n c] 46)).drew w1.heap.size 46 #[.int .i64 k, .int .i64 lo, .int .i64 hi, .int .i64 wt, .string nm, .slice A n c] := Blk.drew (Blk.new _ _ _)
   have HNB := Lib.hid hNb
   have hz1 : w.heap.size + 1 + 1 < w1.heap.size := h1.size
   clear ht2 ht3 h1d h1ad sOf al s1 s1d s1a s1ad hNb h1 h1a hS1 hg1 HT1
   go_wp2_with fail
   have S1o := S1.out
   go_region_held3 (fun w' : World => w'.cell? ⟨w.heap.size, 0, none⟩ = some (.pointer (some ⟨b, 0, none⟩)) /\ w'.cell? ⟨w.heap.size + 1, 0, none⟩ = some (.int .i64 k) /\ w'.cell? ⟨w.heap.size + 1, 1, none⟩ = some (.int .i64 lo) /\ w'.cell? ⟨w.heap.size + 1, 2, none⟩ = some (.int .i64 hi) /\ w'.cell? ⟨w.heap.size + 1, 3, none⟩ = some (.int .i64 wt) /\ w'.cell? ⟨w.heap.size + 1, 4, none⟩ = some (.string nm) /\ w'.cell? ⟨w.heap.size + 1, 5, none⟩ = some (.slice A n c))
    (with_reducible (first | exact S1.out | exact S1D.out | exact S1A.out | exact S1AD.out | exact S2.out | exact S2A.out | exact S3.out | exact S6.out _ _ _ _ _ _ | exact S7.out _ _ _ _ _ _ _))
    (first
     | (go_at_call 77; (with_reducible refine HT2.out.mono ?_)
        rintro e w2 ⟨kk2, aa2, N2, wd2, lg2, rfl, hn2, hS2, hg2⟩
        have HA2 := Lib.hid (H1D.out.grown hblt hg2)
        have S2 := Lib.hid (SOF.out _ HA2.out)
        have S2A := Lib.hid (SOF.out _ (AL.out _ HA2.out (.cells #[.int .i64 k, .int .i64 lo, .int .i64 hi, .int .i64 wt, .string nm, .slice A n c] 46)))
        have s6 := SIX.out _ HA2.out; have s7 := SEV.out _ HA2.out; dsimp only [sixAt] at s6 s7; have S6 := Lib.hid s6; have S7 := Lib.hid s7; clear s6 s7
        have h6a := HA2.out.res; have r0 := Blk.cell h6a 0; have r1 := Blk.cell h6a 1; have r2 := Blk.cell h6a 2; have r3 := Blk.cell h6a 3; have r4 := Blk.cell h6a 4; have r5 := Blk.cell h6a 5
        simp only [List.getElem?_toArray, List.getElem?_cons_zero, List.getElem?_cons_succ] at r0 r1 r2 r3 r4 r5
        have fr := fun i => Blk.frozen h6a i; clear h6a; have hz2 := HA2.out.size
        have HN2 := Lib.hid hn2; have HS2 := Lib.hid hS2
        clear hn2 hS2 hg2)
     | (go_at_call 77; (with_reducible refine HT3.out.mono ?_)
        rintro e w2 ⟨kk2, aa2, N2, wd2, lg2, rfl, hn2, hS2, hg2⟩
        have HA3 := Lib.hid (H1AD.out.grown hblt hg2)
        have S3 := Lib.hid (SOF.out _ HA3.out)
        have s6 := SIX.out _ HA3.out; have s7 := SEV.out _ HA3.out; dsimp only [sixAt] at s6 s7; have S6 := Lib.hid s6; have S7 := Lib.hid s7; clear s6 s7
        have h6a := HA3.out.res; have r0 := Blk.cell h6a 0; have r1 := Blk.cell h6a 1; have r2 := Blk.cell h6a 2; have r3 := Blk.cell h6a 3; have r4 := Blk.cell h6a 4; have r5 := Blk.cell h6a 5
        simp only [List.getElem?_toArray, List.getElem?_cons_zero, List.getElem?_cons_succ] at r0 r1 r2 r3 r4 r5
        have fr := fun i => Blk.frozen h6a i; clear h6a; have hz2 := HA3.out.size
        have HB3 := Lib.hid (Blk.grown HNB.out hg2 (fun e => by injection e with e; omega))
        have HN2 := Lib.hid hn2; have HS2 := Lib.hid hS2
        clear hn2 hS2 hg2))
   all_goals have hval : ∀ t ts', ((.error (7, ts) : Rd Tree)) = .ok (t, ts') -> t = .mk 8 0 0 N2 [] [t0] := fun t ts' e => by
                 obtain ⟨t1, e1, e2, e3⟩ := HYV.out t ts' e
                 rw [e3, (HN2.out t1 e1 e2).2]; rfl
   ·have hfin := HA2.out.fin (S := S) (y := ((.error (7, ts) : Rd Tree))) (k' := 8) (lo' := 0) (hi' := 0) (wt' := N2) hblt HSS.out HTT.out (by rw [HYST.out]; exact HS2.out) hval
    have HFN := Lib.hid hfin; clear hfin hval
    go_wp2_with fail
    refine bodyPost_ret (v := .agg #[.int .i64 8, .int .i64 0, .int .i64 0, .int .i64 N2, .string ⟨#[]⟩, .slice (some ⟨w2.heap.size, 0, none⟩) 1 1]) (by simp [results, Tryz.results181, go_sem, World.cell?_alloc_past, hz2, r0, r1, r2, r3, r4, r5]) rfl ?_
    have := HFN.out
    rw [<- HSEL.out] at this
    exact this
   ·have hfin := HA3.out.fin2 (N := w1.heap.size) (S := S) (y := ((.error (7, ts) : Rd Tree))) (k' := 8) (lo' := 0) (hi' := 0) (wt' := N2) hblt HSS.out HTT.out HB3.out hz1 (by rw [HYST.out]; exact HS2.out) hval
    have HFN := Lib.hid hfin; clear hfin hval
    go_wp2_with fail
    refine bodyPost_ret (v := .agg #[.int .i64 8, .int .i64 0, .int .i64 0, .int .i64 N2, .string ⟨#[]⟩, .slice (some ⟨w1.heap.size, 0, none⟩) 1 1]) (by simp [results, Tryz.results181, go_sem, hz2, r0, r1, r2, r3, r4, r5]) rfl ?_
    have := HFN.out
    rw [<- HSEL.out] at this
    exact this
  ·have hsel : weightX true t0 ts = (nxt ts).into fun t1 => (tk 259 t1).give (rWeight t0 (hd t1).n) := rfl
   have ht1 := take_y HS.out 64 (nxt ts) (by simp [tk, hk]) (by omega) (by omega) 64 rfl
   have HT1 := Lib.hid ht1; have HSEL := Lib.hid hsel; clear ht1 hsel hk
   have hx : ∃ x1 : X, nxt ts = x1 := ⟨_, rfl⟩
   obtain ⟨x1, hx1⟩ := hx
   have hyst : ((nxt ts).into fun t1 => (tk 259 t1).give (rWeight t0 (hd t1).n)).st = x1.on (tk 259) := by
    rw [<- hx1]
    cases nxt ts with
    | error z => rfl
    | ok t1 => rw [into_ok, on_ok, give_st]
   have hyv : ∀ t ts', ((nxt ts).into fun t1 => (tk 259 t1).give (rWeight t0 (hd t1).n)) = .ok (t, ts') -> ∃ t1, x1 = .ok t1 /\ kd t1 = 259 /\ t = rWeight t0 (hd t1).n := fun t ts' e => by
    rw [hx1] at e
    cases x1 with
    | error z => cases e
    | ok t1 =>
      rw [into_ok] at e
      refine ⟨t1, rfl, ?_, ?_⟩
      ·by_cases h9 : kd t1 = 259
       ·exact h9
       ·have : tk 259 t1 = .error (1, t1) := by simp [tk, h9]
        rw [this] at e; cases e
      ·cases hq : tk 259 t1 with
       | error z => rw [hq] at e; cases e
       | ok z => rw [hq] at e; cases e; rfl
   rw [hx1] at HT1
   have HYST := Lib.hid hyst; have HYV := Lib.hid hyv; clear hyst hyv hx1
   go_enter Tryz.func181, Tryz.ntmps181
   go_wp2_with fail
   refine HT1.out.mono ?_
   rintro e w1 ⟨kk1, aa1, n1, wd1, lg1, rfl, -, hS1, hg1⟩
   have h1 := H0.out.grown hblt hg1
   have sOf : ∀ W : World, Side1 w b true k lo hi wt nm A n c W -> (fun w' : World => w'.cell? ⟨w.heap.size, 0, none⟩ = some (.pointer (some ⟨b, 0, none⟩)) /\ w'.cell? ⟨w.heap.size + 1, 0, none⟩ = some (.int .i64 k) /\ w'.cell? ⟨w.heap.size + 1, 1, none⟩ = some (.int .i64 lo) /\ w'.cell? ⟨w.heap.size + 1, 2, none⟩ = some (.int .i64 hi) /\ w'.cell? ⟨w.heap.size + 1, 3, none⟩ = some (.int .i64 wt) /\ w'.cell? ⟨w.heap.size + 1, 4, none⟩ = some (.string nm) /\ w'.cell? ⟨w.heap.size + 1, 5, none⟩ = some (.slice A n c)) W := fun W hW => by
    have v0 := Blk.cell hW.var 0; have v1 := Blk.cell hW.var 1; have v2 := Blk.cell hW.var 2; have v3 := Blk.cell hW.var 3; have v4 := Blk.cell hW.var 4; have v5 := Blk.cell hW.var 5; have c0 := Blk.cell hW.box 0
    simp only [List.getElem?_toArray, List.getElem?_cons_zero, List.getElem?_cons_succ] at v0 v1 v2 v3 v4 v5 c0
    exact ⟨c0, v0, v1, v2, v3, v4, v5⟩
   have six6 : ∀ W : World, Side1 w b true k lo hi wt nm A n c W -> ∀ a1 a2 a3 a4 a5 a6 : Value, (fun w' : World => w'.cell? ⟨w.heap.size, 0, none⟩ = some (.pointer (some ⟨b, 0, none⟩)) /\ w'.cell? ⟨w.heap.size + 1, 0, none⟩ = some (.int .i64 k) /\ w'.cell? ⟨w.heap.size + 1, 1, none⟩ = some (.int .i64 lo) /\ w'.cell? ⟨w.heap.size + 1, 2, none⟩ = some (.int .i64 hi) /\ w'.cell? ⟨w.heap.size + 1, 3, none⟩ = some (.int .i64 wt) /\ w'.cell? ⟨w.heap.size + 1, 4, none⟩ = some (.string nm) /\ w'.cell? ⟨w.heap.size + 1, 5, none⟩ = some (.slice A n c)) (sixAt W (w.heap.size + 1 + 1) a1 a2 a3 a4 a5 a6) := fun W hW a1 a2 a3 a4 a5 a6 => by
    have hb6 := Blk.six_far (H := w.heap.size + 1 + 1) (a1 := a1) (a2 := a2) (a3 := a3) (a4 := a4) (a5 := a5) (a6 := a6) hW.box (by omega)
    have hv6 := Blk.six_far (H := w.heap.size + 1 + 1) (a1 := a1) (a2 := a2) (a3 := a3) (a4 := a4) (a5 := a5) (a6 := a6) hW.var (by omega)
    have v0 := Blk.cell hv6 0; have v1 := Blk.cell hv6 1; have v2 := Blk.cell hv6 2; have v3 := Blk.cell hv6 3; have v4 := Blk.cell hv6 4; have v5 := Blk.cell hv6 5; have c0 := Blk.cell hb6 0
    simp only [List.getElem?_toArray, List.getElem?_cons_zero, List.getElem?_cons_succ] at v0 v1 v2 v3 v4 v5 c0
    exact ⟨c0, v0, v1, v2, v3, v4, v5⟩
   have six7 : ∀ W : World, Side1 w b true k lo hi wt nm A n c W -> ∀ (a1 a2 a3 a4 a5 a6 : Value) o, (fun w' : World => w'.cell? ⟨w.heap.size, 0, none⟩ = some (.pointer (some ⟨b, 0, none⟩)) /\ w'.cell? ⟨w.heap.size + 1, 0, none⟩ = some (.int .i64 k) /\ w'.cell? ⟨w.heap.size + 1, 1, none⟩ = some (.int .i64 lo) /\ w'.cell? ⟨w.heap.size + 1, 2, none⟩ = some (.int .i64 hi) /\ w'.cell? ⟨w.heap.size + 1, 3, none⟩ = some (.int .i64 wt) /\ w'.cell? ⟨w.heap.size + 1, 4, none⟩ = some (.string nm) /\ w'.cell? ⟨w.heap.size + 1, 5, none⟩ = some (.slice A n c)) ((sixAt W (w.heap.size + 1 + 1) a1 a2 a3 a4 a5 a6).alloc o) := fun W hW a1 a2 a3 a4 a5 a6 o => by
    have hb6 := Blk.alloc (Blk.six_far (H := w.heap.size + 1 + 1) (a1 := a1) (a2 := a2) (a3 := a3) (a4 := a4) (a5 := a5) (a6 := a6) hW.box (by omega)) o
    have hv6 := Blk.alloc (Blk.six_far (H := w.heap.size + 1 + 1) (a1 := a1) (a2 := a2) (a3 := a3) (a4 := a4) (a5 := a5) (a6 := a6) hW.var (by omega)) o
    have v0 := Blk.cell hv6 0; have v1 := Blk.cell hv6 1; have v2 := Blk.cell hv6 2; have v3 := Blk.cell hv6 3; have v4 := Blk.cell hv6 4; have v5 := Blk.cell hv6 5; have c0 := Blk.cell hb6 0
    simp only [List.getElem?_toArray, List.getElem?_cons_zero, List.getElem?_cons_succ] at v0 v1 v2 v3 v4 v5 c0
    exact ⟨c0, v0, v1, v2, v3, v4, v5⟩
   have SIX := Lib.hid six6; have SEV := Lib.hid six7; clear six6 six7
   have h1d : Side1 w b true k lo hi wt nm A n c w1.drew := ⟨only_drew h1.gr, h1.box, h1.var, h1.res, h1.size⟩
   have s1 := sOf _ h1
   have s1d := sOf _ h1d
   have al : ∀ W : World, Side1 w b true k lo hi wt nm A n c W -> ∀ o, Side1 w b true k lo hi wt nm A n c (W.alloc o) := fun W hW o => ⟨only_alloc hW.gr o, Blk.alloc hW.box o, Blk.alloc hW.var o, Blk.alloc hW.res o, by have := hW.size; simp; omega⟩
   have h1a := al _ h1 (.cells #[.int .i64 k, .int .i64 lo, .int .i64 hi, .int .i64 wt, .string nm, .slice A n c] 46)
   have h1ad : Side1 w b true k lo hi wt nm A n c (w1.alloc (.cells #[.int .i64 k, .int .i64 lo, .int .i64 hi, .int .i64 wt, .string nm, .slice A n c] 46)).drew := ⟨only_drew h1a.gr, h1a.box, h1a.var, h1a.res, h1a.size⟩
   have s1a := sOf _ h1a
   have s1ad := sOf _ h1ad
   have ht2 := take_y hS1.drew 259 (x1.on (tk 259)) rfl (by omega) (by omega) 259 rfl
   have ht3 := take_y (St.drew (hS1.alloc (.cells #[.int .i64 k, .int .i64 lo, .int .i64 hi, .int .i64 wt, .string nm, .slice A n c] 46))) 259 (x1.on (tk 259)) rfl (by omega) (by omega) 259 rfl
   have HT2 := Lib.hid ht2; have HT3 := Lib.hid ht3; have H1D := Lib.hid h1d; have H1AD := Lib.hid h1ad; have SOF := Lib.hid sOf; have AL := Lib.hid al
   have S1 := Lib.hid s1; have S1D := Lib.hid s1d; have S1A := Lib.hid s1a; have S1AD := Lib.hid s1ad
   have hNb : Blk (w1.alloc (.cells #[.int .i64 k, .int .i64 lo, .int .i64 hi, .int .i64 wt, .string nm, .slice A n c] 46)).drew w1.heap.size 46 #[.int .i64 k, .int .i64 lo, .int .i64 hi, .int .i64 wt, .string nm, .slice A n c] := Blk.drew (Blk.new _ _ _)
   have HNB := Lib.hid hNb
   have hz1 : w.heap.size + 1 + 1 < w1.heap.size := h1.size
   clear ht2 ht3 h1d h1ad sOf al s1 s1d s1a s1ad hNb h1 h1a hS1 hg1 HT1
   go_wp2_with fail
   have S1o := S1.out
   go_region_held3 (fun w' : World => w'.cell? ⟨w.heap.size, 0, none⟩ = some (.pointer (some ⟨b, 0, none⟩)) /\ w'.cell? ⟨w.heap.size + 1, 0, none⟩ = some (.int .i64 k) /\ w'.cell? ⟨w.heap.size + 1, 1, none⟩ = some (.int .i64 lo) /\ w'.cell? ⟨w.heap.size + 1, 2, none⟩ = some (.int .i64 hi) /\ w'.cell? ⟨w.heap.size + 1, 3, none⟩ = some (.int .i64 wt) /\ w'.cell? ⟨w.heap.size + 1, 4, none⟩ = some (.string nm) /\ w'.cell? ⟨w.heap.size + 1, 5, none⟩ = some (.slice A n c))
    (with_reducible (first | exact S1.out | exact S1D.out | exact S1A.out | exact S1AD.out | exact S2.out | exact S2A.out | exact S3.out | exact S6.out _ _ _ _ _ _ | exact S7.out _ _ _ _ _ _ _))
    (first
     | (go_at_call 77; (with_reducible refine HT2.out.mono ?_)
        rintro e w2 ⟨kk2, aa2, N2, wd2, lg2, rfl, hn2, hS2, hg2⟩
        have HA2 := Lib.hid (H1D.out.grown hblt hg2)
        have S2 := Lib.hid (SOF.out _ HA2.out)
        have S2A := Lib.hid (SOF.out _ (AL.out _ HA2.out (.cells #[.int .i64 k, .int .i64 lo, .int .i64 hi, .int .i64 wt, .string nm, .slice A n c] 46)))
        have s6 := SIX.out _ HA2.out; have s7 := SEV.out _ HA2.out; dsimp only [sixAt] at s6 s7; have S6 := Lib.hid s6; have S7 := Lib.hid s7; clear s6 s7
        have h6a := HA2.out.res; have r0 := Blk.cell h6a 0; have r1 := Blk.cell h6a 1; have r2 := Blk.cell h6a 2; have r3 := Blk.cell h6a 3; have r4 := Blk.cell h6a 4; have r5 := Blk.cell h6a 5
        simp only [List.getElem?_toArray, List.getElem?_cons_zero, List.getElem?_cons_succ] at r0 r1 r2 r3 r4 r5
        have fr := fun i => Blk.frozen h6a i; clear h6a; have hz2 := HA2.out.size
        have HN2 := Lib.hid hn2; have HS2 := Lib.hid hS2
        clear hn2 hS2 hg2)
     | (go_at_call 77; (with_reducible refine HT3.out.mono ?_)
        rintro e w2 ⟨kk2, aa2, N2, wd2, lg2, rfl, hn2, hS2, hg2⟩
        have HA3 := Lib.hid (H1AD.out.grown hblt hg2)
        have S3 := Lib.hid (SOF.out _ HA3.out)
        have s6 := SIX.out _ HA3.out; have s7 := SEV.out _ HA3.out; dsimp only [sixAt] at s6 s7; have S6 := Lib.hid s6; have S7 := Lib.hid s7; clear s6 s7
        have h6a := HA3.out.res; have r0 := Blk.cell h6a 0; have r1 := Blk.cell h6a 1; have r2 := Blk.cell h6a 2; have r3 := Blk.cell h6a 3; have r4 := Blk.cell h6a 4; have r5 := Blk.cell h6a 5
        simp only [List.getElem?_toArray, List.getElem?_cons_zero, List.getElem?_cons_succ] at r0 r1 r2 r3 r4 r5
        have fr := fun i => Blk.frozen h6a i; clear h6a; have hz2 := HA3.out.size
        have HB3 := Lib.hid (Blk.grown HNB.out hg2 (fun e => by injection e with e; omega))
        have HN2 := Lib.hid hn2; have HS2 := Lib.hid hS2
        clear hn2 hS2 hg2))
   all_goals have hval : ∀ t ts', (((nxt ts).into fun t1 => (tk 259 t1).give (rWeight t0 (hd t1).n))) = .ok (t, ts') -> t = .mk 8 0 0 N2 [] [t0] := fun t ts' e => by
                 obtain ⟨t1, e1, e2, e3⟩ := HYV.out t ts' e
                 rw [e3, (HN2.out t1 e1 e2).2]; rfl
   ·have hfin := HA2.out.fin (S := S) (y := (((nxt ts).into fun t1 => (tk 259 t1).give (rWeight t0 (hd t1).n)))) (k' := 8) (lo' := 0) (hi' := 0) (wt' := N2) hblt HSS.out HTT.out (by rw [HYST.out]; exact HS2.out) hval
    have HFN := Lib.hid hfin; clear hfin hval
    go_wp2_with fail
    refine bodyPost_ret (v := .agg #[.int .i64 8, .int .i64 0, .int .i64 0, .int .i64 N2, .string ⟨#[]⟩, .slice (some ⟨w2.heap.size, 0, none⟩) 1 1]) (by simp [results, Tryz.results181, go_sem, World.cell?_alloc_past, hz2, r0, r1, r2, r3, r4, r5]) rfl ?_
    have := HFN.out
    rw [<- HSEL.out] at this
    exact this
   ·have hfin := HA3.out.fin2 (N := w1.heap.size) (S := S) (y := (((nxt ts).into fun t1 => (tk 259 t1).give (rWeight t0 (hd t1).n)))) (k' := 8) (lo' := 0) (hi' := 0) (wt' := N2) hblt HSS.out HTT.out HB3.out hz1 (by rw [HYST.out]; exact HS2.out) hval
    have HFN := Lib.hid hfin; clear hfin hval
    go_wp2_with fail
    refine bodyPost_ret (v := .agg #[.int .i64 8, .int .i64 0, .int .i64 0, .int .i64 N2, .string ⟨#[]⟩, .slice (some ⟨w1.heap.size, 0, none⟩) 1 1]) (by simp [results, Tryz.results181, go_sem, hz2, r0, r1, r2, r3, r4, r5]) rfl ?_
    have := HFN.out
    rw [<- HSEL.out] at this
    exact this
end Go.Proofs.YtalgnnidhnhciaaGreatDoor
