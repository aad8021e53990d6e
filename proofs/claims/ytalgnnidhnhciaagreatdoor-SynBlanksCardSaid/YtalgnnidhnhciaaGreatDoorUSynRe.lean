/- Contracts of syn's reading of patterns: a part and what is said of it behind it. Plain mathematics: a part takes a sign at least. -/
import Derived.Test.YtalgnnidhnhciaaGreatDoorUSynRd
import Derived.Test.YtalgnnidhnhciaaGreatDoorUSynN
set_option linter.unusedVariables false
set_option linter.unusedSimpArgs false
set_option maxRecDepth 100000
set_option maxHeartbeats 8000000
namespace Go.Proofs.YtalgnnidhnhciaaGreatDoor
open Go Go.RowKit
attribute [local go_sem] field_sign2 field_sign3
structure LoopP (w : World) (b H3 : Nat) (wg : Bool) (s : ByteArray) (df rl : Value) (dp : Int) (y : Rd Tree) (k lo hi wt : Int) (nm : ByteArray) (A : Option Addr) (n c : Nat) (gk : Nat) (wr : World) : Prop where
 sd : Side0 w b wg wr
 var : Blk wr H3 46 #[.int .i64 k, .int .i64 lo, .int .i64 hi, .int .i64 wt, .string nm, .slice A n c]
 st : St wr b s y.st df rl dp
 tr : ∀ t ts, y = .ok (t, ts) -> TreeV true wr (fun g => w.heap.size + 1 < g /\ g ≠ H3 /\ g ≠ b) (.agg #[.int .i64 k, .int .i64 lo, .int .i64 hi, .int .i64 wt, .string nm, .slice A n c]) t /\ ts.length <= gk
theorem LoopP.next {w wr w2 : World} {b H3 : Nat} {wg : Bool} {s : ByteArray} {df rl : Value} {dp : Int} {c0 : Tree} {ts : Toks} {k lo hi wt k' lo' hi' wt' : Int} {nm nm' : ByteArray} {A A' : Option Addr} {n c n' c' gk gk' : Nat} {y1 : Rd Tree}
  (h : LoopP w b H3 wg s df rl dp (.ok (c0, ts)) k lo hi wt nm A n c gk wr) (hb : b < w.heap.size) (hH : w.heap.size + 1 < H3)
  (hg : wr.grownBy w2 (some b)) (hS : St w2 b s y1.st df rl dp)
  (hT : ∀ t ts, y1 = .ok (t, ts) -> TreeV true w2 (fun g => ((w.heap.size + 1 < g /\ g ≠ H3 /\ g ≠ b) /\ g < wr.heap.size) \/ wr.heap.size <= g) (.agg #[.int .i64 k', .int .i64 lo', .int .i64 hi', .int .i64 wt', .string nm', .slice A' n' c']) t)
  (hl : ∀ t ts, y1 = .ok (t, ts) -> ts.length <= gk') :
  LoopP w b H3 wg s df rl dp y1 k' lo' hi' wt' nm' A' n' c' gk' (sixAt w2 H3 (.int .i64 k') (.int .i64 lo') (.int .i64 hi') (.int .i64 wt') (.string nm') (.slice A' n' c')) := by
  have hz := Blk.lt h.var
  have hs := h.sd.size
  refine ⟨(h.sd.grown hb hg).six hH, Blk.six (Blk.grown h.var hg (fun e => by injection e with e; omega)), hS.six (by omega), fun t ts' e => ⟨?_, hl t ts' e⟩⟩
  exact TreeV.six (hT t ts' e) (fun g hg => by rcases hg with hg | hg; exact hg.1; exact ⟨by omega, by omega, by omega⟩) (fun g hg => by rcases hg with hg | hg; exact hg.1.2.1; omega)
theorem times_lt {n : Nat} (x : Tree) {ts : Toks} (hk : kd ts = 123) (h : ts.length <= n + 1) : Le n (timesX x ts) := by
 unfold timesX
 have h1 : ∀ t1, nxt ts = .ok t1 -> t1.length <= n := fun t1 e => by have := nxt_lt (by omega : kd ts ≠ 256) e; omega
 cases hn : nxt ts with
 | error z => exact Le.err n _
 | ok t1 =>
   rw [into_ok]
   refine (tk_le (h1 t1 hn)).into fun t2 h2 => (tk_le h2).into fun t3 h3 => ?_
   split
   ·exact Le.err n _
   ·split
    ·exact Le.err n _
    ·exact (tk_le h3).into fun t4 h4 => (tk_le h4).give
theorem weight_lt {n : Nat} {wg : Bool} (x : Tree) {ts : Toks} (hk : kd ts = 64) (h : ts.length <= n + 1) : Le n (weightX wg x ts) := by
 unfold weightX
 have h1 : ∀ t1, nxt ts = .ok t1 -> t1.length <= n := fun t1 e => by have := nxt_lt (by omega : kd ts ≠ 256) e; omega
 split
 ·exact Le.err n _
 ·cases hn : nxt ts with
  | error z => exact Le.err n _
  | ok t1 => rw [into_ok]; exact (tk_le (h1 t1 hn)).give
theorem part_ok (D : List Bs) (wg : Bool) (d : Nat) (hd12 : d <= 12)
  (hba : SpecS 179 D wg (fun F => bareR D (lvlE F D wg d)) (12 - d) (fun ts => begB ts = true)) (hle : ∀ F ts, ts.length <= F -> Le F (bareR D (lvlE F D wg d) ts)) :
  SpecS 154 D wg (fun F => pieceR F D wg (lvlE F D wg d)) (12 - d) (fun ts => begB ts = true) := by
  intro w b s ts df rl hbeg h hN
  have hblt := h.blt
  have hlen : ts.length <= s.data.toList.length + 1 := h.len_ok
  obtain ⟨h0, hz⟩ := Side0.mk' w b wg
  have h2 := (h.alloc (.cells #[.pointer (some ⟨b, 0, none⟩), .bool wg] 148)).alloc (.cells #[.int .i64 0, .int .i64 0, .int .i64 0, .int .i64 0, .string ⟨#[]⟩, .slice none 0 0] 46)
  have hN2 := (hN.alloc (.cells #[.pointer (some ⟨b, 0, none⟩), .bool wg] 148)).alloc (.cells #[.int .i64 0, .int .i64 0, .int .i64 0, .int .i64 0, .string ⟨#[]⟩, .slice none 0 0] 46)
  have hc := hba _ b s ts df rl hbeg h2 hN2
  have hl1 := hle _ ts hlen
  obtain ⟨F, hF⟩ : ∃ F, s.data.toList.length + 1 = F := ⟨_, rfl⟩
  simp only [hF] at hc hl1 hlen ⊢
  obtain ⟨y1, hy1⟩ : ∃ y1, bareR D (lvlE F D wg d) ts = y1 := ⟨_, rfl⟩
  have htot : pieceR F D wg (lvlE F D wg d) ts = y1.then_ fun x t1 => behindR wg F x t1 := by rw [<- hy1]; rfl
  rw [hy1] at hc hl1
  obtain ⟨TOT, hTOT⟩ : ∃ TOT, pieceR F D wg (lvlE F D wg d) ts = TOT := ⟨_, rfl⟩
  rw [hTOT] at htot ⊢
  generalize hDP : 12 - (d : Int) = dp at *
  have HC := Lib.hid hc; have HT := Lib.hid htot; have HLE := Lib.hid hl1; have H0 := Lib.hid h0; have HZ := Lib.hid hz
  have bx0 := Blk.cell h0.box 0; have bx1 := Blk.cell h0.box 1
  simp only [List.getElem?_toArray, List.getElem?_cons_zero, List.getElem?_cons_succ] at bx0 bx1
  clear hc htot hl1 h0 hz h2 hN2 h hN hbeg hba hle hF hTOT hy1 hDP hlen
  go_enter Tryz.func154, Tryz.ntmps154
  go_wp2_with fail
  refine HC.out.mono ?_
  rintro e w1 ⟨v, rfl, hv, hT, hS1, hg1⟩
  obtain ⟨k9, lo9, hi9, wt9, nm9, A9, n9, c9, rfl⟩ := hv.lit6
  have hz1 : w.heap.size + 1 < w1.heap.size := by have := hg1.size; rw [HZ.out] at this; omega
  have hL0 : LoopP w b w1.heap.size wg s df rl dp y1 k9 lo9 hi9 wt9 nm9 A9 n9 c9 F (w1.alloc (.cells #[.int .i64 k9, .int .i64 lo9, .int .i64 hi9, .int .i64 wt9, .string nm9, .slice A9 n9 c9] 46)) := by
   refine ⟨(H0.out.grown hblt hg1).alloc _, Blk.new _ _ _, hS1.alloc _, fun t ts e => ⟨?_, HLE.out t ts e⟩⟩
   exact (hT t ts e).bound.keep (fun g hg => by
    have h1 := hg.1
    rw [HZ.out] at h1
    exact ⟨by omega, by have := hg.2; omega, by omega⟩) (fun g _ i x hx => by rw [World.cell?_alloc_past _ _ _ (World.block_lt_of_cell? w1 _ hx)]; exact hx)
  have HL0 := Lib.hid hL0
  have hL0b := (H0.out.grown hblt hg1).alloc (.cells #[.int .i64 k9, .int .i64 lo9, .int .i64 hi9, .int .i64 wt9, .string nm9, .slice A9 n9 c9] 46)
  clear hL0 hL0b hT hS1 hg1 hv bx0 bx1
  go_wp2_with fail
  generalize w1.alloc (.cells #[.int .i64 k9, .int .i64 lo9, .int .i64 hi9, .int .i64 wt9, .string nm9, .slice A9 n9 c9] 46) = wA at *
  generalize w1.heap.size = H3 at *
  go_loopg [6] F (fun gk v6 wr => ∃ (y : Rd Tree) (k lo hi wt : Int) (nm : ByteArray) (A : Option Addr) (n c : Nat), Hid (LoopP w b H3 wg s df rl dp y k lo hi wt nm A n c gk wr) /\ Hid (TOT = y.then_ fun x t1 => behindR wg gk x t1))
  case atStart => exact ⟨y1, k9, lo9, hi9, wt9, nm9, A9, n9, c9, HL0, HT⟩
  case round =>
   clear HL0 HT HC HLE
   obtain ⟨y, k, lo, hi, wt, nm, A, n, c, HLo, HTo⟩ := hrel
   have c2 := HLo.out.st.kind
   have bx0 := Blk.cell HLo.out.sd.box 0; have bx1 := Blk.cell HLo.out.sd.box 1
   have v0 := Blk.cell HLo.out.var 0; have v1 := Blk.cell HLo.out.var 1; have v2 := Blk.cell HLo.out.var 2; have v3 := Blk.cell HLo.out.var 3; have v4 := Blk.cell HLo.out.var 4; have v5 := Blk.cell HLo.out.var 5
   simp only [List.getElem?_toArray, List.getElem?_cons_zero, List.getElem?_cons_succ] at bx0 bx1 v0 v1 v2 v3 v4 v5
   by_cases h42 : kX y.st = 42
   ·obtain ⟨c0, ts, rfl⟩ : ∃ c0 ts, y = .ok (c0, ts) := by
     cases y with
     | ok p => exact ⟨p.1, p.2, rfl⟩
     | error e => simp [Rd.st, kX] at h42
    have hk : kd ts = 42 := Int.ofNat.inj h42
    have hlen := (HLo.out.tr c0 ts rfl).2
    have hts : 0 < ts.length := by
     cases ts with
     | nil => simp [kd, hd] at hk
     | cons a r => simp
    obtain ⟨gk', rfl⟩ : ∃ gk', gk = gk' + 1 := ⟨gk - 1, by omega⟩
    have hq : (kX (Rd.st (.ok (c0, ts) : Rd Tree)) == 42) = true := by simpa using h42
    have hst0 : St wr b s (.ok ts) df rl dp := HLo.out.st
    have hcall := step_st (ts := ts) hst0 (by omega)
    have htot : TOT = ((nxt ts).give (rStar c0)).then_ fun x t1 => behindR wg gk' x t1 := by
     rw [HTo.out, then_ok, behindR]
     rw [if_pos (by simp [hk])]; cases nxt ts <;> rfl
    have hll : ∀ t t1, ((nxt ts).give (rStar c0)) = .ok (t, t1) -> t1.length <= gk' := fun t t1 e => by
     cases hn : nxt ts with
     | error z => rw [hn] at e; cases e
     | ok t2 => rw [hn] at e; cases e; have := nxt_lt (by omega : kd ts ≠ 256) hn; omega
    have HST := Lib.hid hcall; have HTT := Lib.hid htot; have HLL := Lib.hid hll
    clear hcall htot hll hlen hts hst0 h42
    go_wp2_with fail
    refine HST.out.mono ?_
    rintro e w2 ⟨rfl, hS2, hg2⟩
    have hv2 := Blk.grown HLo.out.var hg2 (fun e => by injection e with e; omega)
    have w_0 := Blk.cell hv2 0; have w_1 := Blk.cell hv2 1; have w_2 := Blk.cell hv2 2; have w_3 := Blk.cell hv2 3; have w_4 := Blk.cell hv2 4; have w_5 := Blk.cell hv2 5
    simp only [List.getElem?_toArray, List.getElem?_cons_zero, List.getElem?_cons_succ] at w_0 w_1 w_2 w_3 w_4 w_5
    have fw := fun i => Blk.frozen hv2 i
    have hzz : H3 < w2.heap.size := Blk.lt hv2
    have hgA := only_alloc hg2 (.cells #[.int .i64 k, .int .i64 lo, .int .i64 hi, .int .i64 wt, .string nm, .slice A n c] 46)
    have hSA := hS2.alloc (.cells #[.int .i64 k, .int .i64 lo, .int .i64 hi, .int .i64 wt, .string nm, .slice A n c] 46)
    have hN := Blk.new w2 46 #[.int .i64 k, .int .i64 lo, .int .i64 hi, .int .i64 wt, .string nm, .slice A n c]
    have hwr : H3 < wr.heap.size := Blk.lt HLo.out.var
    have hwr2 : wr.heap.size <= w2.heap.size := hg2.size
    have hTA : TreeV true (w2.alloc (.cells #[.int .i64 k, .int .i64 lo, .int .i64 hi, .int .i64 wt, .string nm, .slice A n c] 46)) (fun g => ((w.heap.size + 1 < g /\ g ≠ H3 /\ g ≠ b) /\ g < wr.heap.size) \/ wr.heap.size <= g) (.agg #[.int .i64 k, .int .i64 lo, .int .i64 hi, .int .i64 wt, .string nm, .slice A n c]) c0 :=
     (HLo.out.tr c0 ts rfl).1.bound.keep (fun g hg => .inl hg) (fun g hg i x hx => by
      have h1 := hg2.cell hx (fun e => by injection e with e; exact hg.1.2.2 e)
      rw [World.cell?_alloc_past _ _ _ (World.block_lt_of_cell? w2 _ h1)]; exact h1)
    have hLn := HLo.out.next (y1 := (nxt ts).give (rStar c0)) (k' := 6) (lo' := 0) (hi' := 0) (wt' := 0) (nm' := ⟨#[]⟩) (A' := some ⟨w2.heap.size, 0, none⟩) (n' := 1) (c' := 1) hblt hz1 hgA (by rw [give_st]; exact hSA) (fun t t1 e => by
     cases hn : nxt ts with
     | error z => rw [hn] at e; cases e
     | ok t2 =>
       rw [hn] at e; cases e
       exact TreeV.node true _ _ 6 0 0 0 w2.heap.size 1 [c0] (fun e => by cases e) rfl (by omega) (.inr (by omega)) (trees_one6 hN hTA)) HLL.out
    have hsw : sixAt (w2.alloc (.cells #[.int .i64 k, .int .i64 lo, .int .i64 hi, .int .i64 wt, .string nm, .slice A n c] 46)) H3 (.int .i64 6) (.int .i64 0) (.int .i64 0) (.int .i64 0) (.string ⟨#[]⟩) (.slice (some ⟨w2.heap.size, 0, none⟩) 1 1) = (sixAt w2 H3 (.int .i64 6) (.int .i64 0) (.int .i64 0) (.int .i64 0) (.string ⟨#[]⟩) (.slice (some ⟨w2.heap.size, 0, none⟩) 1 1)).alloc (.cells #[.int .i64 k, .int .i64 lo, .int .i64 hi, .int .i64 wt, .string nm, .slice A n c] 46) := by
     simp [sixAt, hzz, go_sem]
    rw [hsw] at hLn
    have HLN := Lib.hid hLn
    clear hLn hS2 hg2 hv2 hgA hSA hN hTA hsw v0 v1 v2 v3 v4 v5 bx0 bx1 c2 HTo HLo HST hk
    go_wp2_with fail
    go_roundg gk'
    case measure => omega
    case rel => exact ⟨_, _, _, _, _, _, _, _, _, HLN, HTT⟩
   have q42 : (kX y.st == 42) = false := by simpa using h42
   by_cases h123 : kX y.st = 123
   ·obtain ⟨c0, ts, rfl⟩ : ∃ c0 ts, y = .ok (c0, ts) := by
     cases y with
     | ok p => exact ⟨p.1, p.2, rfl⟩
     | error e => simp [Rd.st, kX] at h123
    have hk : kd ts = 123 := Int.ofNat.inj h123
    have hlen := (HLo.out.tr c0 ts rfl).2
    have hts : 0 < ts.length := by
     cases ts with
     | nil => simp [kd, hd] at hk
     | cons a r => simp
    obtain ⟨gk', rfl⟩ : ∃ gk', gk = gk' + 1 := ⟨gk - 1, by omega⟩
    have hq : (kX (Rd.st (.ok (c0, ts) : Rd Tree)) == 123) = true := by simpa using h123
    have hst0 : St wr b s (.ok ts) df rl dp := HLo.out.st
    have hcall := (times_st wg (k := k) (lo := lo) (hi := hi) (wt := wt) (nm := nm) (A := A) (n := n) (c := c) (S := fun g => (w.heap.size + 1 < g /\ g ≠ H3 /\ g ≠ b) /\ g < wr.heap.size) (t0 := c0) hst0 hk (fun g hg => ⟨hg.2, hg.1.2.2⟩) (HLo.out.tr c0 ts rfl).1.bound)
    have htot : TOT = (timesX c0 ts).then_ fun x t1 => behindR wg gk' x t1 := by
     rw [HTo.out, then_ok, behindR]
     rw [if_neg (by simp [hk]), if_pos (by simp [hk])]
    have hll : ∀ t t1, (timesX c0 ts) = .ok (t, t1) -> t1.length <= gk' := fun t t1 e => by
     have e1 : Le gk' (timesX c0 ts) := times_lt c0 hk hlen
     exact e1 t t1 e
    have HST := Lib.hid hcall; have HTT := Lib.hid htot; have HLL := Lib.hid hll
    clear hcall htot hll hlen hts hst0 h123
    go_wp2_with fail
    refine HST.out.mono ?_
    rintro e w2 ⟨v, rfl, hv, hT, hS2, hg2⟩
    obtain ⟨k', lo', hi', wt', nm', A', n', c', rfl⟩ := hv.lit6
    have hLn := HLo.out.next hblt hz1 hg2 hS2 hT HLL.out
    have hv2 := Blk.grown HLo.out.var hg2 (fun e => by injection e with e; omega)
    have w_0 := Blk.cell hv2 0; have w_1 := Blk.cell hv2 1; have w_2 := Blk.cell hv2 2; have w_3 := Blk.cell hv2 3; have w_4 := Blk.cell hv2 4; have w_5 := Blk.cell hv2 5
    simp only [List.getElem?_toArray, List.getElem?_cons_zero, List.getElem?_cons_succ] at w_0 w_1 w_2 w_3 w_4 w_5
    have fw := fun i => Blk.frozen hv2 i
    have HLN := Lib.hid hLn
    clear hLn hv hT hS2 hg2 hv2 v0 v1 v2 v3 v4 v5 bx0 bx1 c2 HTo HLo HST hk
    try apply_assumption
    set_option maxHeartbeats 400000 in go_wp2_with fail
    go_roundg gk'
    case measure => omega
    case rel => exact ⟨_, _, _, _, _, _, _, _, _, HLN, HTT⟩
   have q123 : (kX y.st == 123) = false := by simpa using h123
   by_cases h64 : kX y.st = 64
   ·obtain ⟨c0, ts, rfl⟩ : ∃ c0 ts, y = .ok (c0, ts) := by
     cases y with
     | ok p => exact ⟨p.1, p.2, rfl⟩
     | error e => simp [Rd.st, kX] at h64
    have hk : kd ts = 64 := Int.ofNat.inj h64
    have hlen := (HLo.out.tr c0 ts rfl).2
    have hts : 0 < ts.length := by
     cases ts with
     | nil => simp [kd, hd] at hk
     | cons a r => simp
    obtain ⟨gk', rfl⟩ : ∃ gk', gk = gk' + 1 := ⟨gk - 1, by omega⟩
    have hq : (kX (Rd.st (.ok (c0, ts) : Rd Tree)) == 64) = true := by simpa using h64
    have hst0 : St wr b s (.ok ts) df rl dp := HLo.out.st
    have hcall := (weight_st wg (k := k) (lo := lo) (hi := hi) (wt := wt) (nm := nm) (A := A) (n := n) (c := c) (S := fun g => (w.heap.size + 1 < g /\ g ≠ H3 /\ g ≠ b) /\ g < wr.heap.size) (t0 := c0) hst0 hk (fun g hg => ⟨hg.2, hg.1.2.2⟩) (HLo.out.tr c0 ts rfl).1.bound)
    have htot : TOT = (weightX wg c0 ts).then_ fun x t1 => behindR wg gk' x t1 := by
     rw [HTo.out, then_ok, behindR]
     rw [if_neg (by simp [hk]), if_neg (by simp [hk]), if_pos (by simp [hk])]
    have hll : ∀ t t1, (weightX wg c0 ts) = .ok (t, t1) -> t1.length <= gk' := fun t t1 e => by
     have e1 : Le gk' (weightX wg c0 ts) := weight_lt c0 hk hlen
     exact e1 t t1 e
    have HST := Lib.hid hcall; have HTT := Lib.hid htot; have HLL := Lib.hid hll
    clear hcall htot hll hlen hts hst0 h64
    go_wp2_with fail
    refine HST.out.mono ?_
    rintro e w2 ⟨v, rfl, hv, hT, hS2, hg2⟩
    obtain ⟨k', lo', hi', wt', nm', A', n', c', rfl⟩ := hv.lit6
    have hLn := HLo.out.next hblt hz1 hg2 hS2 hT HLL.out
    have hv2 := Blk.grown HLo.out.var hg2 (fun e => by injection e with e; omega)
    have w_0 := Blk.cell hv2 0; have w_1 := Blk.cell hv2 1; have w_2 := Blk.cell hv2 2; have w_3 := Blk.cell hv2 3; have w_4 := Blk.cell hv2 4; have w_5 := Blk.cell hv2 5
    simp only [List.getElem?_toArray, List.getElem?_cons_zero, List.getElem?_cons_succ] at w_0 w_1 w_2 w_3 w_4 w_5
    have fw := fun i => Blk.frozen hv2 i
    have HLN := Lib.hid hLn
    clear hLn hv hT hS2 hg2 hv2 v0 v1 v2 v3 v4 v5 bx0 bx1 c2 HTo HLo HST hk
    try apply_assumption
    set_option maxHeartbeats 400000 in go_wp2_with fail
    go_roundg gk'
    case measure => omega
    case rel => exact ⟨_, _, _, _, _, _, _, _, _, HLN, HTT⟩
   have q64 : (kX y.st == 64) = false := by simpa using h64
   have htot : TOT = y := by
    rw [HTo.out]
    cases y with
    | error e => rfl
    | ok p =>
      obtain ⟨c0, ts⟩ := p
      have k1 : kd ts ≠ 42 := fun e => h42 (by simp [Rd.st, kX, e])
      have k2 : kd ts ≠ 123 := fun e => h123 (by simp [Rd.st, kX, e])
      have k3 : kd ts ≠ 64 := fun e => h64 (by simp [Rd.st, kX, e])
      rw [then_ok]
      cases gk with
      | zero => rfl
      | succ g => rw [behindR, if_neg (by simp [k1]), if_neg (by simp [k2]), if_neg (by simp [k3])]
   have HTT := Lib.hid htot; clear htot h42 h123 h64
   have r0 := Blk.cell HLo.out.sd.res 0; have r1 := Blk.cell HLo.out.sd.res 1; have r2 := Blk.cell HLo.out.sd.res 2; have r3 := Blk.cell HLo.out.sd.res 3; have r4 := Blk.cell HLo.out.sd.res 4; have r5 := Blk.cell HLo.out.sd.res 5
   simp only [List.getElem?_toArray, List.getElem?_cons_zero, List.getElem?_cons_succ] at r0 r1 r2 r3 r4 r5
   have fr := fun i => Blk.frozen HLo.out.sd.res i
   have hfin := reads_six (y := y) (k := k) (lo := lo) (hi := hi) (wt := wt) (nm := nm) (A := A) (n := n) (c := c) (H2 := w.heap.size + 1) (w := w) (by omega) (by omega) HLo.out.st HLo.out.sd.gr (fun t ts e => (HLo.out.tr t ts e).1.keep (fun _ hg => hg.1) (fun _ _ _ _ hx => hx))
   have HFN := Lib.hid hfin; clear hfin
   go_wp2_with fail
   refine bodyPost_ret (v := .agg #[.int .i64 k, .int .i64 lo, .int .i64 hi, .int .i64 wt, .string nm, .slice A n c]) (by simp [results, Tryz.results154, go_sem, r0, r1, r2, r3, r4, r5]) rfl ?_
   have := HFN.out
   rw [<- HTT.out] at this
   exact this
end Go.Proofs.YtalgnnidhnhciaaGreatDoor
namespace Go.Proofs.YtalgnnidhnhciaaGreatDoor
open Go
theorem beg_256 {ts : Toks} (h : begB ts = true) : kd ts ≠ 256 := by
 intro e
 simp [begB, e] at h
theorem nxt_lt' {n : Nat} {ts : Toks} (hb : begB ts = true) (h : ts.length <= n + 1) : LeX n (nxt ts) := fun t e => by have := nxt_lt (beg_256 hb) e; omega
theorem bare_lt {n : Nat} {D : List Bs} {ei : Option (Toks -> Rd Tree)} (hc : ∀ f, ei = some f -> ∀ ts, ts.length <= n -> Le n (f ts)) {ts : Toks} (hb : begB ts = true) (h : ts.length <= n + 1) : Le n (bareR D ei ts) := by
 have h1 := nxt_lt' hb h
 unfold bareR
 split
 ·refine LeX.give ?_
  unfold knownX
  split
  ·exact h1
  ·exact fun t e => by cases e
 ·split
  ·cases ei with
   | none => exact Le.err n _
   | some f => exact (h1.into fun t ht => hc f rfl t ht).then_ fun c t1 h1 => (tk_le h1).give
  ·exact h1.give
theorem piece_lt {n F : Nat} {D : List Bs} {wg : Bool} {ei : Option (Toks -> Rd Tree)} (hc : ∀ f, ei = some f -> ∀ ts, ts.length <= n -> Le n (f ts)) (ts : Toks) (hb : begB ts = true) (h : ts.length <= n + 1) : Le n (pieceR F D wg ei ts) :=
 (bare_lt hc hb h).then_ fun x t1 h1 => behind_le F x t1 h1
theorem pc_lt {n F : Nat} {D : List Bs} {wg : Bool} (d : Nat) : ∀ ts, begB ts = true -> ts.length <= n + 1 -> Le n (pcR F D wg d ts) := by
 cases d with
 | zero => exact piece_lt (fun f e => by cases e)
 | succ d => exact piece_lt (fun f e => by cases e; exact rex_le d)
end Go.Proofs.YtalgnnidhnhciaaGreatDoor
