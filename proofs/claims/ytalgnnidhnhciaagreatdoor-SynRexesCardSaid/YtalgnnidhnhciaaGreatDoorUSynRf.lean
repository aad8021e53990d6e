/- Contracts of syn's reading of patterns: parts side by side. -/
import Derived.Test.YtalgnnidhnhciaaGreatDoorShort
import Derived.Test.YtalgnnidhnhciaaGreatDoorUSynRe
import Derived.Test.YtalgnnidhnhciaaGreatDoorUAny
set_option linter.unusedVariables false
set_option linter.unusedSimpArgs false
set_option maxRecDepth 100000
set_option maxHeartbeats 8000000
namespace Go.Proofs.YtalgnnidhnhciaaGreatDoor
open Go Go.RowKit
attribute [local go_sem] field_sign2 field_sign3
structure LoopQ (w : World) (b H3 : Nat) (wg : Bool) (s : ByteArray) (df rl : Value) (dp : Int) (D : List Bs) (y : Rd Tree) (k lo hi wt : Int) (nm : ByteArray) (A : Option Addr) (n c : Nat) (gk : Nat) (wr : World) : Prop where
 sd : Side0 w b wg wr
 var : Blk wr H3 46 #[.int .i64 k, .int .i64 lo, .int .i64 hi, .int .i64 wt, .string nm, .slice A n c]
 st : St wr b s y.st df rl dp
 nb : NamesW w.heap.size wr b df D
 tr : ∀ t ts, y = .ok (t, ts) -> TreeV true wr (fun g => w.heap.size + 1 < g /\ g ≠ H3 /\ g ≠ b) (.agg #[.int .i64 k, .int .i64 lo, .int .i64 hi, .int .i64 wt, .string nm, .slice A n c]) t /\ ts.length <= gk
def RowQ (w : World) (b H3 : Nat) (wg : Bool) (df : Value) (D : List Bs) (c0 : Tree) (k lo hi wt : Int) (nm : ByteArray) (A : Option Addr) (n c : Nat) (w2 : World) : Prop :=
 Side0 w b wg w2 /\ Blk w2 H3 46 #[.int .i64 k, .int .i64 lo, .int .i64 hi, .int .i64 wt, .string nm, .slice A n c] /\ NamesW w.heap.size w2 b df D /\ TreeV true w2 (fun g => w.heap.size + 1 < g /\ g ≠ H3 /\ g ≠ b) (.agg #[.int .i64 k, .int .i64 lo, .int .i64 hi, .int .i64 wt, .string nm, .slice A n c]) c0
section
variable {w wr w2 w3 : World} {b H3 : Nat} {wg : Bool} {s : ByteArray} {df rl : Value} {dp : Int} {D : List Bs} {c0 : Tree} {ts : Toks} {k lo hi wt k' lo' hi' wt' : Int} {nm nm' : ByteArray} {A A' : Option Addr} {n c n' c' gk : Nat} {y1 : Rd Tree} {kk : Nat}
theorem LoopQ.step (h : LoopQ w b H3 wg s df rl dp D (.ok (c0, ts)) k lo hi wt nm A n c gk wr) (hg : wr.grownBy w2 (some b)) (hb : b < w.heap.size) (hH : w.heap.size + 1 < H3) : RowQ w b H3 wg df D c0 k lo hi wt nm A n c w2 :=
 ⟨h.sd.grown hb hg, Blk.grown h.var hg (fun e => by injection e with e; omega), h.nb.grown hg, (h.tr c0 ts rfl).1.keep (fun _ hg => hg) (fun g hS i x hx => hg.cell hx (fun e => by injection e with e; exact hS.2.2 e))⟩
theorem LoopQ.two (q : RowQ w b H3 wg df D c0 k lo hi wt nm A n c w2)
  (hb : b < w.heap.size) (hH : w.heap.size + 1 < H3) (hz : H3 < w2.heap.size)
  (hT : ∀ t ts, y1 = .ok (t, ts) -> TreeV true w3 (fun g => w2.heap.size <= g) (.agg #[.int .i64 k', .int .i64 lo', .int .i64 hi', .int .i64 wt', .string nm', .slice A' n' c']) t) (hS : St w3 b s y1.st df rl dp) (hg : w2.grownBy w3 (some b))
  (hl : ∀ t ts, y1 = .ok (t, ts) -> ts.length <= gk) :
  LoopQ w b H3 wg s df rl dp D (y1.then_ fun d t1 => .ok (rTwo kk c0 d, t1)) kk 0 0 0 ⟨#[]⟩ (some ⟨w3.heap.size, 0, none⟩) 2 2 gk
   (sixAt (w3.alloc (.cells #[.int .i64 k, .int .i64 lo, .int .i64 hi, .int .i64 wt, .string nm, .slice A n c, .int .i64 k', .int .i64 lo', .int .i64 hi', .int .i64 wt', .string nm', .slice A' n' c'] 46)) H3 (.int .i64 kk) (.int .i64 0) (.int .i64 0) (.int .i64 0) (.string ⟨#[]⟩) (.slice (some ⟨w3.heap.size, 0, none⟩) 2 2)) := by
  obtain ⟨q1, q2, q4, q5⟩ := q
  have hz3 : w2.heap.size <= w3.heap.size := hg.size
  have hst : (y1.then_ fun d t1 => (.ok (rTwo kk c0 d, t1) : Rd Tree)).st = y1.st := by cases y1 <;> rfl
  have e1 : ∀ g, g ≠ b -> ∀ i x, w2.cell? ⟨g, i, none⟩ = some x -> w3.cell? ⟨g, i, none⟩ = some x := fun g hne i x hx => hg.cell hx (fun e => by injection e with e; exact hne e)
  have e2 : ∀ (o : Obj) g i x, w3.cell? ⟨g, i, none⟩ = some x -> (w3.alloc o).cell? ⟨g, i, none⟩ = some x := fun o g i x hx => by rw [World.cell?_alloc_past _ _ _ (World.block_lt_of_cell? w3 _ hx)]; exact hx
  refine ⟨((q1.grown hb hg).alloc _).six hH, Blk.six (Blk.alloc (Blk.grown q2 hg (fun e => by injection e with e; omega)) _), ?_, ((q4.grown hg).alloc _).six (by omega), ?_⟩
  ·rw [hst]
   exact (hS.alloc _).six (by omega)
  ·intro t ts' e
   obtain ⟨d, hy, rfl⟩ : ∃ d, y1 = .ok (d, ts') /\ t = rTwo kk c0 d := by
    cases y1 with
    | error z => cases e
    | ok p => obtain ⟨d, t1⟩ := p; simp only [then_ok] at e; cases e; exact ⟨d, rfl, rfl⟩
   refine ⟨?_, hl d ts' hy⟩
   have hN : Blk (w3.alloc (.cells #[.int .i64 k, .int .i64 lo, .int .i64 hi, .int .i64 wt, .string nm, .slice A n c, .int .i64 k', .int .i64 lo', .int .i64 hi', .int .i64 wt', .string nm', .slice A' n' c'] 46)) w3.heap.size 46 #[.int .i64 k, .int .i64 lo, .int .i64 hi, .int .i64 wt, .string nm, .slice A n c, .int .i64 k', .int .i64 lo', .int .i64 hi', .int .i64 wt', .string nm', .slice A' n' c'] := Blk.new _ _ _
   have t1 : TreeV true (w3.alloc (.cells #[.int .i64 k, .int .i64 lo, .int .i64 hi, .int .i64 wt, .string nm, .slice A n c, .int .i64 k', .int .i64 lo', .int .i64 hi', .int .i64 wt', .string nm', .slice A' n' c'] 46)) (fun g => w.heap.size + 1 < g /\ g ≠ H3 /\ g ≠ b) (.agg #[.int .i64 k, .int .i64 lo, .int .i64 hi, .int .i64 wt, .string nm, .slice A n c]) c0 :=
    q5.keep (fun _ h => h) (fun g hS i x hx => e2 _ g i x (e1 g hS.2.2 i x hx))
   have t2 : TreeV true (w3.alloc (.cells #[.int .i64 k, .int .i64 lo, .int .i64 hi, .int .i64 wt, .string nm, .slice A n c, .int .i64 k', .int .i64 lo', .int .i64 hi', .int .i64 wt', .string nm', .slice A' n' c'] 46)) (fun g => w.heap.size + 1 < g /\ g ≠ H3 /\ g ≠ b) (.agg #[.int .i64 k', .int .i64 lo', .int .i64 hi', .int .i64 wt', .string nm', .slice A' n' c']) d :=
    (hT d ts' hy).keep (fun g hS => ⟨by omega, by omega, by omega⟩) (fun g hS i x hx => e2 _ g i x hx)
   have t3 := TreeV.node true _ (fun g => w.heap.size + 1 < g /\ g ≠ H3 /\ g ≠ b) kk 0 0 0 w3.heap.size 2 [c0, d] (fun e => by cases e) rfl (by omega) ⟨by omega, by omega, by omega⟩ (trees_two6 hN t1 t2)
   exact TreeV.six t3 (fun _ h => h) (fun g hS => hS.2.1)
end
theorem begX_ok {y : Rd Tree} (h : begX y.st = true) : ∃ c0 ts, y = .ok (c0, ts) /\ begB ts = true := by
 cases y with
 | ok p => exact ⟨p.1, p.2, rfl, h⟩
 | error e => cases h
theorem row_all (okb : Bool) (D : List Bs) (wg : Bool) (dp : Int) (sel : Nat -> Toks -> Rd Tree) (hpt : okb = true -> SpecS 154 D wg sel dp (fun ts => begB ts = true)) (hle : ∀ F n ts, begB ts = true -> ts.length <= n + 1 -> Le n (sel F ts))
  (w : World) (b : Nat) (s : ByteArray) (x0 : X) (df rl : Value) (hx0 : okb = true \/ ∃ er, x0 = .error er) (h : St w b s x0 df rl dp) (hN : NamesB w b df D) :
  Calls Tryz.prog 126 #[.agg #[.pointer (some ⟨b, 0, none⟩), .bool wg]] w (Reads_ true w b s (x0.into (rowR (s.data.toList.length + 1) (sel (s.data.toList.length + 1)))) df rl dp) := by
  have hblt := h.blt
  have hlen : ∀ ts, x0 = .ok ts -> ts.length <= s.data.toList.length + 1 := fun ts e => by subst e; exact h.len_ok
  obtain ⟨h0, hz⟩ := Side0.mk' w b wg
  have h2 := (h.alloc (.cells #[.pointer (some ⟨b, 0, none⟩), .bool wg] 148)).alloc (.cells #[.int .i64 0, .int .i64 0, .int .i64 0, .int .i64 0, .string ⟨#[]⟩, .slice none 0 0] 46)
  have hN2 := (hN.low.alloc (.cells #[.pointer (some ⟨b, 0, none⟩), .bool wg] 148)).alloc (.cells #[.int .i64 0, .int .i64 0, .int .i64 0, .int .i64 0, .string ⟨#[]⟩, .slice none 0 0] 46)
  have hbg := begins_st wg h2
  have bx0 := Blk.cell h0.box 0; have bx1 := Blk.cell h0.box 1
  simp only [List.getElem?_toArray, List.getElem?_cons_zero, List.getElem?_cons_succ] at bx0 bx1
  by_cases hbeg : begX x0 = true
  ·obtain ⟨ts0, rfl⟩ : ∃ ts, x0 = .ok ts := by
    cases x0 with
    | ok ts => exact ⟨ts, rfl⟩
    | error e => cases hbeg
   have hb0 : begB ts0 = true := hbeg
   have hokb : okb = true := by
    rcases hx0 with h | ⟨er, e⟩
    ·exact h
    ·cases e
   have hpt := hpt hokb
   clear hx0 hokb
   rw [hbeg] at hbg
   obtain ⟨F, hF⟩ : ∃ F, s.data.toList.length + 1 = F := ⟨_, rfl⟩
   have hlen0 := hlen ts0 rfl
   rw [hF] at hlen0
   have htot : X.into (.ok ts0) (rowR F (sel F)) = (sel F ts0).then_ fun c ts => rowLoop (sel F) F c ts := by
    show rowR F (sel F) ts0 = _
    unfold rowR; rw [if_neg (by simp [hb0])]
   have hpc : ∀ W, St W b s (.ok ts0) df rl dp -> NamesB W b df D -> Calls Tryz.prog 154 #[.agg #[.pointer (some ⟨b, 0, none⟩), .bool wg]] W (Reads_ true W b s (sel F ts0) df rl dp) := fun W hW hNW => by
    have := hpt W b s ts0 df rl hb0 hW hNW
    simp only [hF] at this
    exact this
   have hpl : ∀ W ts, begB ts = true -> St W b s (.ok ts) df rl dp -> NamesB W b df D -> Calls Tryz.prog 154 #[.agg #[.pointer (some ⟨b, 0, none⟩), .bool wg]] W (Reads_ true W b s (sel F ts) df rl dp) := fun W ts hb hW hNW => by
    have := hpt W b s ts df rl hb hW hNW
    simp only [hF] at this
    exact this
   have hle1 : Le F (sel F ts0) := hle F F ts0 hb0 (by omega)
   simp only [hF]
   obtain ⟨TOT, hTOT⟩ : ∃ TOT, X.into (.ok ts0) (rowR F (sel F)) = TOT := ⟨_, rfl⟩
   rw [hTOT] at htot ⊢
   obtain ⟨y1, hy1⟩ : ∃ y1, sel F ts0 = y1 := ⟨_, rfl⟩
   rw [hy1] at htot hle1 hpc
   have hle' : ∀ n ts, begB ts = true -> ts.length <= n + 1 -> Le n (sel F ts) := hle F
   have HBG := Lib.hid hbg; have HPC := Lib.hid hpc; have HPL := Lib.hid hpl; have HT := Lib.hid htot; have HLE := Lib.hid hle1; have HL := Lib.hid hle'; have HN := Lib.hid hN2; have H0 := Lib.hid h0; have HZ := Lib.hid hz; have H2 := Lib.hid h2
   clear hbg hpc hpl htot hle1 hle' hN2 h0 hz h2 h hN hlen hlen0 hpt hle hF hTOT hy1 hb0 hbeg
   go_enter Tryz.func126, Tryz.ntmps126
   go_wp2_with fail
   refine HBG.out.mono ?_
   rintro e wb ⟨rfl, hbb⟩
   have hgb := only_of_below hbb (some b)
   have hSb := H2.out.below hbb
   have h0b := H0.out.grown hblt hgb
   have hNb := HN.out.grown hgb
   have hzb : w.heap.size + 1 < wb.heap.size := h0b.size
   have hpc := HPC.out wb hSb hNb.names
   have bx0 := Blk.cell h0b.box 0; have bx1 := Blk.cell h0b.box 1
   simp only [List.getElem?_toArray, List.getElem?_cons_zero, List.getElem?_cons_succ] at bx0 bx1
   have HPC := Lib.hid hpc; have H0 := Lib.hid h0b; have HN := Lib.hid hNb
   clear hpc h0b hNb hSb hgb hbb H2 HBG
   go_wp2_with fail
   refine HPC.out.mono ?_
   rintro e w1 ⟨v, rfl, hv, hT, hS1, hg1⟩
   obtain ⟨k9, lo9, hi9, wt9, nm9, A9, n9, c9, rfl⟩ := hv.lit6
   have hz1 : w.heap.size + 1 < w1.heap.size := by have := hg1.size; omega
   have hL0 : LoopQ w b w1.heap.size wg s df rl dp D y1 k9 lo9 hi9 wt9 nm9 A9 n9 c9 F (w1.alloc (.cells #[.int .i64 k9, .int .i64 lo9, .int .i64 hi9, .int .i64 wt9, .string nm9, .slice A9 n9 c9] 46)) := by
    refine ⟨(H0.out.grown hblt hg1).alloc _, Blk.new _ _ _, hS1.alloc _, (HN.out.grown hg1).alloc _, fun t ts e => ⟨?_, HLE.out t ts e⟩⟩
    exact (hT t ts e).bound.keep (fun g hg => by
     have h1 := hg.1
     exact ⟨by omega, by have := hg.2; omega, by omega⟩) (fun g _ i x hx => by rw [World.cell?_alloc_past _ _ _ (World.block_lt_of_cell? w1 _ hx)]; exact hx)
   have HL0 := Lib.hid hL0
   clear hL0 hT hS1 hg1 hv bx0 bx1 hzb
   go_wp2_with fail
   generalize w1.alloc (.cells #[.int .i64 k9, .int .i64 lo9, .int .i64 hi9, .int .i64 wt9, .string nm9, .slice A9 n9 c9] 46) = wA at *
   generalize w1.heap.size = H3 at *
   go_loopg [10] F (fun gk v10 wr => ∃ (y : Rd Tree) (k lo hi wt : Int) (nm : ByteArray) (A : Option Addr) (n c : Nat), Hid (LoopQ w b H3 wg s df rl dp D y k lo hi wt nm A n c gk wr) /\ Hid (TOT = y.then_ fun c ts => rowLoop (sel F) gk c ts))
   case atStart => exact ⟨y1, k9, lo9, hi9, wt9, nm9, A9, n9, c9, HL0, HT⟩
   case round =>
    clear HL0 HT HN HPC HLE H0
    obtain ⟨y, k, lo, hi, wt, nm, A, n, c, HLo, HTo⟩ := hrel
    have hbg := begins_st wg HLo.out.st
    have bx0 := Blk.cell HLo.out.sd.box 0; have bx1 := Blk.cell HLo.out.sd.box 1
    simp only [List.getElem?_toArray, List.getElem?_cons_zero, List.getElem?_cons_succ] at bx0 bx1
    by_cases hbeg : begX y.st = true
    ·obtain ⟨c0, ts, rfl, hbt⟩ := begX_ok hbeg
     rw [hbeg] at hbg
     have hlen := (HLo.out.tr c0 ts rfl).2
     have hts : 0 < ts.length := by
      cases ts with
      | nil => simp [begB, kd, hd] at hbt
      | cons a r => simp
     obtain ⟨gk', rfl⟩ : ∃ gk', gk = gk' + 1 := ⟨gk - 1, by omega⟩
     have htot : TOT = (sel F ts).then_ fun d t1 => rowLoop (sel F) gk' (rTwo 4 c0 d) t1 := by
      rw [HTo.out, then_ok, rowLoop, if_pos hbt]
     have hll : ∀ t t1, sel F ts = .ok (t, t1) -> t1.length <= gk' := HL.out gk' ts hbt hlen
     have HBG := Lib.hid hbg; have HTT := Lib.hid htot; have HLL := Lib.hid hll; have HBT := Lib.hid hbt
     clear hbg htot hll hlen hts hbeg hbt HTo
     go_wp2_with fail
     refine HBG.out.mono ?_
     rintro e w2 ⟨rfl, hbb⟩
     have hgb := only_of_below hbb (some b)
     have hq := HLo.out.step hgb hblt hz1
     have hzz : H3 < w2.heap.size := Blk.lt hq.2.1
     have hnc := HPL.out w2.drew ts HBT.out (St.drew (St.below HLo.out.st hbb)) (show NamesB w2.drew b df D from hq.2.2.1.names)
     have HQ := Lib.hid hq; have HNC := Lib.hid hnc
     clear hq hnc hgb hbb HBG bx0 bx1
     have hq' := HQ.out
     have v0 := Blk.cell hq'.2.1 0; have v1 := Blk.cell hq'.2.1 1; have v2 := Blk.cell hq'.2.1 2; have v3 := Blk.cell hq'.2.1 3; have v4 := Blk.cell hq'.2.1 4; have v5 := Blk.cell hq'.2.1 5; have bx0 := Blk.cell hq'.1.box 0; have bx1 := Blk.cell hq'.1.box 1
     simp only [List.getElem?_toArray, List.getElem?_cons_zero, List.getElem?_cons_succ] at v0 v1 v2 v3 v4 v5 bx0 bx1
     clear hq'
     go_wp2_with fail
     refine region_x 5 (fun w' : World => w'.cell? ⟨H3, 0, none⟩ = some (.int .i64 k) /\ w'.cell? ⟨H3, 1, none⟩ = some (.int .i64 lo) /\ w'.cell? ⟨H3, 2, none⟩ = some (.int .i64 hi) /\ w'.cell? ⟨H3, 3, none⟩ = some (.int .i64 wt) /\ w'.cell? ⟨H3, 4, none⟩ = some (.string nm) /\ w'.cell? ⟨H3, 5, none⟩ = some (.slice A n c) /\ w'.cell? ⟨w.heap.size, 0, none⟩ = some (.pointer (some ⟨b, 0, none⟩)) /\ w'.cell? ⟨w.heap.size, 1, none⟩ = some (.bool wg)) (by kernel_rfl) ?_
     have hS : w2.drew.cell? ⟨H3, 0, none⟩ = some (.int .i64 k) /\ w2.drew.cell? ⟨H3, 1, none⟩ = some (.int .i64 lo) /\ w2.drew.cell? ⟨H3, 2, none⟩ = some (.int .i64 hi) /\ w2.drew.cell? ⟨H3, 3, none⟩ = some (.int .i64 wt) /\ w2.drew.cell? ⟨H3, 4, none⟩ = some (.string nm) /\ w2.drew.cell? ⟨H3, 5, none⟩ = some (.slice A n c) /\ w2.drew.cell? ⟨w.heap.size, 0, none⟩ = some (.pointer (some ⟨b, 0, none⟩)) /\ w2.drew.cell? ⟨w.heap.size, 1, none⟩ = some (.bool wg) := ⟨v0, v1, v2, v3, v4, v5, bx0, bx1⟩
     clear v0 v1 v2 v3 v4 v5 bx0 bx1
     refine tkx (i := 0) (v := ?_) hS ?_ ?_
     rotate_left
     ·rintro w' ⟨s0, s1, s2, s3, s4, s5, t0, t1⟩
      go_simp
      try with_reducible rfl
     try simp only [Act.put, zq1, zq2, zq3, zq4, zq5, zq6]
     refine tkx (i := 1) (v := ?_) hS ?_ ?_
     rotate_left
     ·rintro w' ⟨s0, s1, s2, s3, s4, s5, t0, t1⟩
      go_simp
      try with_reducible rfl
     try simp only [Act.put, zq1, zq2, zq3, zq4, zq5, zq6]
     refine anyX_g (i := 2) (by kernel_rfl) (by decide) rfl (by rfl) ?_
     intro K hK
     try simp only [zq1, zq2, zq3]
     refine wp_enterE #[.agg #[.pointer (some ⟨b, 0, none⟩), .bool wg]] Tryz.func154 (by kernel_rfl) (by kernel_rfl) ?_ HNC.out ?_
     ·go_simp
     rintro e w3 ⟨v, rfl, hv, hT, hS3, hg3⟩
     obtain ⟨k', lo', hi', wt', nm', A', n', c', rfl⟩ := hv.lit6
     refine ⟨_, rfl, ?_⟩
     have hg3' : w2.grownBy w3 (some b) := only_trans (only_drew (only_refl w2 (some b))) hg3
     have hLn := LoopQ.two (kk := 4) HQ.out hblt hz1 hzz hT hS3 hg3' HLL.out
     have hv3 := Blk.grown HQ.out.2.1 hg3' (fun e => by injection e with e; omega)
     have hb3 := Blk.grown HQ.out.1.box hg3' (fun e => by injection e with e; omega)
     have hSw : (fun w' : World => w'.cell? ⟨H3, 0, none⟩ = some (.int .i64 k) /\ w'.cell? ⟨H3, 1, none⟩ = some (.int .i64 lo) /\ w'.cell? ⟨H3, 2, none⟩ = some (.int .i64 hi) /\ w'.cell? ⟨H3, 3, none⟩ = some (.int .i64 wt) /\ w'.cell? ⟨H3, 4, none⟩ = some (.string nm) /\ w'.cell? ⟨H3, 5, none⟩ = some (.slice A n c) /\ w'.cell? ⟨w.heap.size, 0, none⟩ = some (.pointer (some ⟨b, 0, none⟩)) /\ w'.cell? ⟨w.heap.size, 1, none⟩ = some (.bool wg)) w3 := by
      have v0 := Blk.cell hv3 0; have v1 := Blk.cell hv3 1; have v2 := Blk.cell hv3 2; have v3 := Blk.cell hv3 3; have v4 := Blk.cell hv3 4; have v5 := Blk.cell hv3 5; have bx0 := Blk.cell hb3 0; have bx1 := Blk.cell hb3 1
      simp only [List.getElem?_toArray, List.getElem?_cons_zero, List.getElem?_cons_succ] at v0 v1 v2 v3 v4 v5 bx0 bx1
      exact ⟨v0, v1, v2, v3, v4, v5, bx0, bx1⟩
     refine hK _ _ hSw ?_
     clear hK hS
     have HLN := Lib.hid hLn; have HV3 := Lib.hid hv3; have HB3 := Lib.hid hb3
     clear hLn hv hT hS3 hg3 hg3' hv3 hb3
     try simp only [Act.put, zq1, zq2, zq3, zq4, zq5, zq6]
     refine anyX_g (i := 3) (by kernel_rfl) (by decide) rfl (by rfl) ?_
     intro K hK
     try simp only [zq1, zq2, zq3]
     go_simp
     have hva := Blk.alloc HV3.out (.cells #[.int .i64 k, .int .i64 lo, .int .i64 hi, .int .i64 wt, .string nm, .slice A n c, .int .i64 k', .int .i64 lo', .int .i64 hi', .int .i64 wt', .string nm', .slice A' n' c'] 46)
     have hba := Blk.alloc HB3.out (.cells #[.int .i64 k, .int .i64 lo, .int .i64 hi, .int .i64 wt, .string nm, .slice A n c, .int .i64 k', .int .i64 lo', .int .i64 hi', .int .i64 wt', .string nm', .slice A' n' c'] 46)
     have hSa : (fun w' : World => w'.cell? ⟨H3, 0, none⟩ = some (.int .i64 k) /\ w'.cell? ⟨H3, 1, none⟩ = some (.int .i64 lo) /\ w'.cell? ⟨H3, 2, none⟩ = some (.int .i64 hi) /\ w'.cell? ⟨H3, 3, none⟩ = some (.int .i64 wt) /\ w'.cell? ⟨H3, 4, none⟩ = some (.string nm) /\ w'.cell? ⟨H3, 5, none⟩ = some (.slice A n c) /\ w'.cell? ⟨w.heap.size, 0, none⟩ = some (.pointer (some ⟨b, 0, none⟩)) /\ w'.cell? ⟨w.heap.size, 1, none⟩ = some (.bool wg)) (w3.alloc (.cells #[.int .i64 k, .int .i64 lo, .int .i64 hi, .int .i64 wt, .string nm, .slice A n c, .int .i64 k', .int .i64 lo', .int .i64 hi', .int .i64 wt', .string nm', .slice A' n' c'] 46)) := by
      have v0 := Blk.cell hva 0; have v1 := Blk.cell hva 1; have v2 := Blk.cell hva 2; have v3 := Blk.cell hva 3; have v4 := Blk.cell hva 4; have v5 := Blk.cell hva 5; have bx0 := Blk.cell hba 0; have bx1 := Blk.cell hba 1
      simp only [List.getElem?_toArray, List.getElem?_cons_zero, List.getElem?_cons_succ] at v0 v1 v2 v3 v4 v5 bx0 bx1
      exact ⟨v0, v1, v2, v3, v4, v5, bx0, bx1⟩
     refine hK _ _ hSa ?_
     clear hK hSw
     try simp only [Act.put, zq1, zq2, zq3, zq4, zq5, zq6]
     refine anyX_g (i := 4) (by kernel_rfl) (by decide) rfl (by rfl) ?_
     intro K hK
     try simp only [zq1, zq2, zq3]
     go_simp
     refine hK _ _ hSa ?_
     clear hK
     try simp only [Act.put, zq1, zq2, zq3, zq4, zq5, zq6]
     refine anyX_last (by kernel_rfl) (by kernel_rfl) rfl rfl ?_
     try simp only [zq1, zq2, zq3]
     obtain ⟨v0, v1, v2, v3, v4, v5, bx0, bx1⟩ := hSa
     have fv := fun i => Blk.frozen hva i
     clear hva hba
     go_simp
     apply_assumption
     go_roundg gk'
     case measure => omega
     case rel => exact ⟨_, _, _, _, _, _, _, _, _, HLN, Lib.hid (by
      rw [HTT.out]
      cases sel F ts with
      | error z => rfl
      | ok p => rfl)⟩
    ·have hbf : begX y.st = false := by simpa using hbeg
     rw [hbf] at hbg
     have htot : TOT = y := by
      rw [HTo.out]
      cases y with
      | error e => rfl
      | ok p =>
        obtain ⟨c0, ts⟩ := p
        have hk : begB ts = false := hbf
        rw [then_ok]
        cases gk with
        | zero => rfl
        | succ g => rw [rowLoop, if_neg (by simp [hk])]
     have hgb := fun w2 (hb : Below wr.heap.size wr w2) => only_of_below hb (some b)
     have HTT := Lib.hid htot; have HBG := Lib.hid hbg; clear htot hbeg hbf hbg hgb HTo
     go_wp2_with fail
     refine HBG.out.mono ?_
     rintro e w2 ⟨rfl, hbb⟩
     have hgb := only_of_below hbb (some b)
     have hLo2 : LoopQ w b H3 wg s df rl dp D y k lo hi wt nm A n c gk w2 :=
      ⟨HLo.out.sd.grown hblt hgb, Blk.grown HLo.out.var hgb (fun e => by injection e with e; omega), St.below HLo.out.st hbb, HLo.out.nb.grown hgb, fun t ts e => ⟨(HLo.out.tr t ts e).1.keep (fun _ h => h) (fun g hS i x hx => hgb.cell hx (fun e => by injection e with e; exact hS.2.2 e)), (HLo.out.tr t ts e).2⟩⟩
     clear HLo hgb hbb bx0 bx1
     have HLo := Lib.hid hLo2; clear hLo2
     have r0 := Blk.cell HLo.out.sd.res 0; have r1 := Blk.cell HLo.out.sd.res 1; have r2 := Blk.cell HLo.out.sd.res 2; have r3 := Blk.cell HLo.out.sd.res 3; have r4 := Blk.cell HLo.out.sd.res 4; have r5 := Blk.cell HLo.out.sd.res 5
     have v0 := Blk.cell HLo.out.var 0; have v1 := Blk.cell HLo.out.var 1; have v2 := Blk.cell HLo.out.var 2; have v3 := Blk.cell HLo.out.var 3; have v4 := Blk.cell HLo.out.var 4; have v5 := Blk.cell HLo.out.var 5
     simp only [List.getElem?_toArray, List.getElem?_cons_zero, List.getElem?_cons_succ] at r0 r1 r2 r3 r4 r5 v0 v1 v2 v3 v4 v5
     have fr := fun i => Blk.frozen HLo.out.sd.res i
     have hfin := reads_six (y := y) (k := k) (lo := lo) (hi := hi) (wt := wt) (nm := nm) (A := A) (n := n) (c := c) (H2 := w.heap.size + 1) (w := w) (by omega) (by omega) HLo.out.st HLo.out.sd.gr (fun t ts e => (HLo.out.tr t ts e).1.keep (fun _ hg => hg.1) (fun _ _ _ _ hx => hx))
     have HFN := Lib.hid hfin; clear hfin
     go_wp2_with fail
     refine bodyPost_ret (v := .agg #[.int .i64 k, .int .i64 lo, .int .i64 hi, .int .i64 wt, .string nm, .slice A n c]) (by simp [results, Tryz.results126, go_sem, r0, r1, r2, r3, r4, r5]) rfl ?_
     have := HFN.out
     rw [<- HTT.out] at this
     exact this
  ·have hbf : begX x0 = false := by simpa using hbeg
   rw [hbf] at hbg
   obtain ⟨y1, hy1, hst1, htr1⟩ : ∃ y1, x0.into (rowR (s.data.toList.length + 1) (sel (s.data.toList.length + 1))) = y1 /\ y1.st = x0 /\ ∀ t ts, y1 = .ok (t, ts) -> t = rNone := by
    cases x0 with
    | error e => exact ⟨.error e, rfl, rfl, fun t ts e => by cases e⟩
    | ok ts =>
      have hk : begB ts = false := hbf
      refine ⟨.ok (rNone, ts), ?_, rfl, fun t ts e => by cases e; rfl⟩
      show rowR _ _ ts = _
      unfold rowR; rw [if_pos (by simp [hk])]
   rw [hy1]
   have HBG := Lib.hid hbg; have H0 := Lib.hid h0; have H2 := Lib.hid h2; have HST := Lib.hid hst1; have HTR := Lib.hid htr1
   clear hbg h0 h2 hst1 htr1 hy1 hpt hle hN2 h hN hlen hbeg hbf hz hx0
   go_enter Tryz.func126, Tryz.ntmps126
   go_wp2_with fail
   refine HBG.out.mono ?_
   rintro e w1 ⟨rfl, hbb⟩
   have hgb := only_of_below hbb (some b)
   have h1 := H0.out.grown hblt hgb
   have r0 := Blk.cell h1.res 0; have r1 := Blk.cell h1.res 1; have r2 := Blk.cell h1.res 2; have r3 := Blk.cell h1.res 3; have r4 := Blk.cell h1.res 4; have r5 := Blk.cell h1.res 5
   simp only [List.getElem?_toArray, List.getElem?_cons_zero, List.getElem?_cons_succ] at r0 r1 r2 r3 r4 r5
   have fr := fun i => Blk.frozen h1.res i
   have hfin := reads_six (y := y1) (k := 1) (lo := 0) (hi := 0) (wt := 0) (nm := ⟨#[]⟩) (A := none) (n := 0) (c := 0) (H2 := w.heap.size + 1) (w := w) (by omega) (by omega) (by rw [HST.out]; exact H2.out.below hbb) h1.gr (fun t ts' e => by
    rw [HTR.out t ts' e]
    exact TreeV.leaf true w1 (fun g => w.heap.size + 1 < g) 1 0 0 0 ⟨#[]⟩ (fun e => by cases e))
   have HFN := Lib.hid hfin; clear hfin hgb hbb h1
   go_wp2_with fail
   refine bodyPost_ret (v := .agg #[.int .i64 1, .int .i64 0, .int .i64 0, .int .i64 0, .string ⟨#[]⟩, .slice none 0 0]) (by simp [results, Tryz.results126, go_sem, r0, r1, r2, r3, r4, r5]) rfl ?_
   exact HFN.out
end Go.Proofs.YtalgnnidhnhciaaGreatDoor
