/- Contracts of syn's reading of patterns: one or more rows. Contract of syn's reading of patterns: at each depth, what the plain mathematics says. -/
import Derived.Test.YtalgnnidhnhciaaGreatDoorShort
import Derived.Test.YtalgnnidhnhciaaGreatDoorUSynRf
set_option linter.unusedVariables false
set_option linter.unusedSimpArgs false
set_option maxRecDepth 100000
set_option maxHeartbeats 8000000
namespace Go.Proofs.YtalgnnidhnhciaaGreatDoor
open Go Go.RowKit
attribute [local go_sem] field_sign2 field_sign3
def RowSpec (okb : Bool) (D : List Bs) (wg : Bool) (rw_ : Toks -> Rd Tree) (b : Nat) (s : ByteArray) (df rl : Value) (dp : Int) : Prop :=
 ∀ (w : World) (x : X), (okb = true \/ ∃ er, x = .error er) -> St w b s x df rl dp -> NamesB w b df D -> Calls Tryz.prog 126 #[.agg #[.pointer (some ⟨b, 0, none⟩), .bool wg]] w (Reads_ true w b s (x.into rw_) df rl dp)
theorem either_all (okb : Bool) (D : List Bs) (wg : Bool) (dp : Int) (rw_ : Toks -> Rd Tree) (w : World) (b : Nat) (s : ByteArray) (x0 : X) (df rl : Value) (hx0 : okb = true \/ ∃ er, x0 = .error er) (h : St w b s x0 df rl dp) (hN : NamesB w b df D)
  (hrw : RowSpec okb D wg rw_ b s df rl dp) (hle : ∀ n ts, ts.length <= n -> Le n (rw_ ts)) :
  Calls Tryz.prog 101 #[.agg #[.pointer (some ⟨b, 0, none⟩), .bool wg]] w (Reads_ true w b s (x0.into (eitherR (s.data.toList.length + 1) rw_)) df rl dp) := by
  have hblt := h.blt
  have hlen : ∀ ts, x0 = .ok ts -> ts.length <= s.data.toList.length + 1 := fun ts e => by subst e; exact h.len_ok
  obtain ⟨F, hF⟩ : ∃ F, s.data.toList.length + 1 = F := ⟨_, rfl⟩
  rw [hF] at hlen ⊢
  obtain ⟨h0, hz⟩ := Side0.mk' w b wg
  have h2 := (h.alloc (.cells #[.pointer (some ⟨b, 0, none⟩), .bool wg] 148)).alloc (.cells #[.int .i64 0, .int .i64 0, .int .i64 0, .int .i64 0, .string ⟨#[]⟩, .slice none 0 0] 46)
  have hN2 := (hN.low.alloc (.cells #[.pointer (some ⟨b, 0, none⟩), .bool wg] 148)).alloc (.cells #[.int .i64 0, .int .i64 0, .int .i64 0, .int .i64 0, .string ⟨#[]⟩, .slice none 0 0] 46)
  have hc := hrw _ x0 hx0 h2 hN2.names
  have htot : x0.into (eitherR F rw_) = (x0.into rw_).then_ fun c ts => eitherLoop rw_ F c ts := by cases x0 <;> rfl
  obtain ⟨TOT, hTOT⟩ : ∃ TOT, x0.into (eitherR F rw_) = TOT := ⟨_, rfl⟩
  rw [hTOT] at htot ⊢
  obtain ⟨y1, hy1⟩ : ∃ y1, x0.into rw_ = y1 := ⟨_, rfl⟩
  have hle1 : Le F y1 := by
   rw [<- hy1]
   cases x0 with
   | error e => exact Le.err F e
   | ok ts => exact hle F ts (hlen ts rfl)
  have hok1 : okb = true \/ ∃ er, y1 = .error er := by
   rcases hx0 with h | ⟨er, rfl⟩
   ·exact .inl h
   ·exact .inr ⟨er, hy1.symm⟩
  rw [hy1] at hc htot
  have bx0 := Blk.cell h0.box 0; have bx1 := Blk.cell h0.box 1
  simp only [List.getElem?_toArray, List.getElem?_cons_zero, List.getElem?_cons_succ] at bx0 bx1
  have HOK := Lib.hid hok1; have HC := Lib.hid hc; have HT := Lib.hid htot; have HLE := Lib.hid hle1; have HN := Lib.hid hN2; have H0 := Lib.hid h0; have HZ := Lib.hid hz; have HRW := Lib.hid hrw; have HL := Lib.hid hle
  clear hx0 hok1 hc htot hle1 hN2 h0 hz hrw hle h h2 hN hlen hF hTOT hy1
  go_enter Tryz.func101, Tryz.ntmps101
  go_wp2_with fail
  refine HC.out.mono ?_
  rintro e w1 ⟨v, rfl, hv, hT, hS1, hg1⟩
  obtain ⟨k9, lo9, hi9, wt9, nm9, A9, n9, c9, rfl⟩ := hv.lit6
  have hz1 : w.heap.size + 1 < w1.heap.size := by have := hg1.size; rw [HZ.out] at this; omega
  have hL0 : LoopQ w b w1.heap.size wg s df rl dp D y1 k9 lo9 hi9 wt9 nm9 A9 n9 c9 F (w1.alloc (.cells #[.int .i64 k9, .int .i64 lo9, .int .i64 hi9, .int .i64 wt9, .string nm9, .slice A9 n9 c9] 46)) := by
   refine ⟨(H0.out.grown hblt hg1).alloc _, Blk.new _ _ _, hS1.alloc _, (HN.out.grown hg1).alloc _, fun t ts e => ⟨?_, HLE.out t ts e⟩⟩
   exact (hT t ts e).bound.keep (fun g hg => by
    have h1 := hg.1
    rw [HZ.out] at h1
    exact ⟨by omega, by have := hg.2; omega, by omega⟩) (fun g _ i x hx => by rw [World.cell?_alloc_past _ _ _ (World.block_lt_of_cell? w1 _ hx)]; exact hx)
  have HL0 := Lib.hid hL0
  clear hL0 hT hS1 hg1 hv bx0 bx1
  go_wp2_with fail
  generalize w1.alloc (.cells #[.int .i64 k9, .int .i64 lo9, .int .i64 hi9, .int .i64 wt9, .string nm9, .slice A9 n9 c9] 46) = wA at *
  generalize w1.heap.size = H3 at *
  go_loopg [6] F (fun gk v6 wr => ∃ (y : Rd Tree) (k lo hi wt : Int) (nm : ByteArray) (A : Option Addr) (n c : Nat), Hid (LoopQ w b H3 wg s df rl dp D y k lo hi wt nm A n c gk wr) /\ Hid (TOT = y.then_ fun c ts => eitherLoop rw_ gk c ts) /\ Hid (okb = true \/ ∃ er, y = .error er))
  case atStart => exact ⟨y1, k9, lo9, hi9, wt9, nm9, A9, n9, c9, HL0, HT, HOK⟩
  case round =>
   clear HL0 HT HN HC HLE H0 HOK
   obtain ⟨y, k, lo, hi, wt, nm, A, n, c, HLo, HTo, HOo⟩ := hrel
   have c2 := HLo.out.st.kind
   have bx0 := Blk.cell HLo.out.sd.box 0; have bx1 := Blk.cell HLo.out.sd.box 1
   simp only [List.getElem?_toArray, List.getElem?_cons_zero, List.getElem?_cons_succ] at bx0 bx1
   by_cases h124 : kX y.st = 124
   ·obtain ⟨c0, ts, rfl⟩ : ∃ c0 ts, y = .ok (c0, ts) := by
     cases y with
     | ok p => exact ⟨p.1, p.2, rfl⟩
     | error e => simp [Rd.st, kX] at h124
    have hk : kd ts = 124 := Int.ofNat.inj h124
    have hokt : okb = true := by
     rcases HOo.out with h | ⟨er, e⟩
     ·exact h
     ·cases e
    have q : (kX (Rd.st (.ok (c0, ts) : Rd Tree)) == 124) = true := by simpa using h124
    have hlen := (HLo.out.tr c0 ts rfl).2
    have hts : 0 < ts.length := by
     cases ts with
     | nil => simp [kd, hd] at hk
     | cons a r => simp
    obtain ⟨gk', rfl⟩ : ∃ gk', gk = gk' + 1 := ⟨gk - 1, by omega⟩
    have hst := step_st (ts := ts) HLo.out.st (by omega)
    have htot : TOT = ((nxt ts).into rw_).then_ fun d t1 => eitherLoop rw_ gk' (rTwo 5 c0 d) t1 := by
     rw [HTo.out, then_ok, eitherLoop, if_pos (by simp [hk])]
    have hll : ∀ t t1, (nxt ts).into rw_ = .ok (t, t1) -> t1.length <= gk' := fun t t1 e => by
     have : Le gk' ((nxt ts).into rw_) := by
      cases hn : nxt ts with
      | error z => exact Le.err _ z
      | ok t2 => exact HL.out gk' t2 (by have := nxt_lt (by omega : kd ts ≠ 256) hn; omega)
     exact this t t1 e
    have HST := Lib.hid hst; have HTT := Lib.hid htot; have HLL := Lib.hid hll; have HOT := Lib.hid hokt
    clear hst htot hk h124 hll hlen hts HTo hokt HOo
    go_wp2_with fail
    refine HST.out.mono ?_
    rintro e w2 ⟨rfl, hS2, hg2⟩
    have hq := HLo.out.step hg2 hblt hz1
    have hzz : H3 < w2.heap.size := Blk.lt hq.2.1
    have hnc := HRW.out w2.drew (nxt ts) (.inl HOT.out) hS2.drew (show NamesB w2.drew b df D from hq.2.2.1.names)
    have HQ := Lib.hid hq; have HNC := Lib.hid hnc
    clear hq hnc hS2 hg2 HST bx0 bx1 c2
    have hq' := HQ.out
    have v0 := Blk.cell hq'.2.1 0; have v1 := Blk.cell hq'.2.1 1; have v2 := Blk.cell hq'.2.1 2; have v3 := Blk.cell hq'.2.1 3; have v4 := Blk.cell hq'.2.1 4; have v5 := Blk.cell hq'.2.1 5; have bx0 := Blk.cell hq'.1.box 0; have bx1 := Blk.cell hq'.1.box 1
    simp only [List.getElem?_toArray, List.getElem?_cons_zero, List.getElem?_cons_succ] at v0 v1 v2 v3 v4 v5 bx0 bx1
    clear hq'
    go_wp2_with fail
    refine region_x 5 (fun w' : World => w'.cell? ⟨H3, 0, none⟩ = some (.int .i64 k) /\ w'.cell? ⟨H3, 1, none⟩ = some (.int .i64 lo) /\ w'.cell? ⟨H3, 2, none⟩ = some (.int .i64 hi) /\ w'.cell? ⟨H3, 3, none⟩ = some (.int .i64 wt) /\ w'.cell? ⟨H3, 4, none⟩ = some (.string nm) /\ w'.cell? ⟨H3, 5, none⟩ = some (.slice A n c) /\ w'.cell? ⟨w.heap.size, 0, none⟩ = some (.pointer (some ⟨b, 0, none⟩)) /\ w'.cell? ⟨w.heap.size, 1, none⟩ = some (.bool wg)) (by kernel_rfl) ?_
    have hS : w2.drew.cell? ⟨H3, 0, none⟩ = some (.int .i64 k) /\ w2.drew.cell? ⟨H3, 1, none⟩ = some (.int .i64 lo) /\ w2.drew.cell? ⟨H3, 2, none⟩ = some (.int .i64 hi) /\ w2.drew.cell? ⟨H3, 3, none⟩ = some (.int .i64 wt) /\ w2.drew.cell? ⟨H3, 4, none⟩ = some (.string nm) /\ w2.drew.cell? ⟨H3, 5, none⟩ = some (.slice A n c) /\ w2.drew.cell? ⟨w.heap.size, 0, none⟩ = some (.pointer (some ⟨b, 0, none⟩)) /\ w2.drew.cell? ⟨w.heap.size, 1, none⟩ = some (.bool wg) := ⟨v0, v1, v2, v3, v4, v5, bx0, bx1⟩
    clear v0 v1 v2 v3 v4 v5 bx0 bx1
    refine tkx (i := 0) (v := ?_) hS ?_ ?_
    rotate_left
    ·rintro w' ⟨s0, s1, s2, s3, s4, s5, t0, t1⟩
     go_simp
     try with_reducible rfl
    try simp only [Act.put, zq1, zq2, zq3, zq4, zq5, zq6]
    refine tkx (i := 1) (v := ?_) hS ?_ ?_
    rotate_left
    ·rintro w' ⟨s0, s1, s2, s3, s4, s5, t0, t1⟩
     go_simp
     try with_reducible rfl
    try simp only [Act.put, zq1, zq2, zq3, zq4, zq5, zq6]
    refine anyX_g (i := 2) (by kernel_rfl) (by decide) rfl (by rfl) ?_
    intro K hK
    try simp only [zq1, zq2, zq3]
    refine wp_enterE #[.agg #[.pointer (some ⟨b, 0, none⟩), .bool wg]] Tryz.func126 (by kernel_rfl) (by kernel_rfl) ?_ HNC.out ?_
    ·go_simp
    rintro e w3 ⟨v, rfl, hv, hT, hS3, hg3⟩
    obtain ⟨k', lo', hi', wt', nm', A', n', c', rfl⟩ := hv.lit6
    refine ⟨_, rfl, ?_⟩
    have hg3' : w2.grownBy w3 (some b) := only_trans (only_drew (only_refl w2 (some b))) hg3
    have hLn := LoopQ.two (kk := 5) HQ.out hblt hz1 hzz hT hS3 hg3' HLL.out
    have hv3 := Blk.grown HQ.out.2.1 hg3' (fun e => by injection e with e; omega)
    have hb3 := Blk.grown HQ.out.1.box hg3' (fun e => by injection e with e; omega)
    have hSw : (fun w' : World => w'.cell? ⟨H3, 0, none⟩ = some (.int .i64 k) /\ w'.cell? ⟨H3, 1, none⟩ = some (.int .i64 lo) /\ w'.cell? ⟨H3, 2, none⟩ = some (.int .i64 hi) /\ w'.cell? ⟨H3, 3, none⟩ = some (.int .i64 wt) /\ w'.cell? ⟨H3, 4, none⟩ = some (.string nm) /\ w'.cell? ⟨H3, 5, none⟩ = some (.slice A n c) /\ w'.cell? ⟨w.heap.size, 0, none⟩ = some (.pointer (some ⟨b, 0, none⟩)) /\ w'.cell? ⟨w.heap.size, 1, none⟩ = some (.bool wg)) w3 := by
     have v0 := Blk.cell hv3 0; have v1 := Blk.cell hv3 1; have v2 := Blk.cell hv3 2; have v3 := Blk.cell hv3 3; have v4 := Blk.cell hv3 4; have v5 := Blk.cell hv3 5; have bx0 := Blk.cell hb3 0; have bx1 := Blk.cell hb3 1
     simp only [List.getElem?_toArray, List.getElem?_cons_zero, List.getElem?_cons_succ] at v0 v1 v2 v3 v4 v5 bx0 bx1
     exact ⟨v0, v1, v2, v3, v4, v5, bx0, bx1⟩
    refine hK _ _ hSw ?_
    clear hK hS
    have HLN := Lib.hid hLn; have HV3 := Lib.hid hv3; have HB3 := Lib.hid hb3
    clear hLn hv hT hS3 hg3 hg3' hv3 hb3
    try simp only [Act.put, zq1, zq2, zq3, zq4, zq5, zq6]
    refine anyX_g (i := 3) (by kernel_rfl) (by decide) rfl (by rfl) ?_
    intro K hK
    try simp only [zq1, zq2, zq3]
    go_simp
    have hva := Blk.alloc HV3.out (.cells #[.int .i64 k, .int .i64 lo, .int .i64 hi, .int .i64 wt, .string nm, .slice A n c, .int .i64 k', .int .i64 lo', .int .i64 hi', .int .i64 wt', .string nm', .slice A' n' c'] 46)
    have hba := Blk.alloc HB3.out (.cells #[.int .i64 k, .int .i64 lo, .int .i64 hi, .int .i64 wt, .string nm, .slice A n c, .int .i64 k', .int .i64 lo', .int .i64 hi', .int .i64 wt', .string nm', .slice A' n' c'] 46)
    have hSa : (fun w' : World => w'.cell? ⟨H3, 0, none⟩ = some (.int .i64 k) /\ w'.cell? ⟨H3, 1, none⟩ = some (.int .i64 lo) /\ w'.cell? ⟨H3, 2, none⟩ = some (.int .i64 hi) /\ w'.cell? ⟨H3, 3, none⟩ = some (.int .i64 wt) /\ w'.cell? ⟨H3, 4, none⟩ = some (.string nm) /\ w'.cell? ⟨H3, 5, none⟩ = some (.slice A n c) /\ w'.cell? ⟨w.heap.size, 0, none⟩ = some (.pointer (some ⟨b, 0, none⟩)) /\ w'.cell? ⟨w.heap.size, 1, none⟩ = some (.bool wg)) (w3.alloc (.cells #[.int .i64 k, .int .i64 lo, .int .i64 hi, .int .i64 wt, .string nm, .slice A n c, .int .i64 k', .int .i64 lo', .int .i64 hi', .int .i64 wt', .string nm', .slice A' n' c'] 46)) := by
     have v0 := Blk.cell hva 0; have v1 := Blk.cell hva 1; have v2 := Blk.cell hva 2; have v3 := Blk.cell hva 3; have v4 := Blk.cell hva 4; have v5 := Blk.cell hva 5; have bx0 := Blk.cell hba 0; have bx1 := Blk.cell hba 1
     simp only [List.getElem?_toArray, List.getElem?_cons_zero, List.getElem?_cons_succ] at v0 v1 v2 v3 v4 v5 bx0 bx1
     exact ⟨v0, v1, v2, v3, v4, v5, bx0, bx1⟩
    refine hK _ _ hSa ?_
    clear hK hSw
    try simp only [Act.put, zq1, zq2, zq3, zq4, zq5, zq6]
    refine anyX_g (i := 4) (by kernel_rfl) (by decide) rfl (by rfl) ?_
    intro K hK
    try simp only [zq1, zq2, zq3]
    go_simp
    refine hK _ _ hSa ?_
    clear hK
    try simp only [Act.put, zq1, zq2, zq3, zq4, zq5, zq6]
    refine anyX_last (by kernel_rfl) (by kernel_rfl) rfl rfl ?_
    try simp only [zq1, zq2, zq3]
    obtain ⟨v0, v1, v2, v3, v4, v5, bx0, bx1⟩ := hSa
    have fv := fun i => Blk.frozen hva i
    clear hva hba
    go_simp
    apply_assumption
    go_roundg gk'
    case measure => omega
    case rel => exact ⟨_, _, _, _, _, _, _, _, _, HLN, Lib.hid (by
     rw [HTT.out]
     cases (nxt ts).into rw_ with
     | error z => rfl
     | ok p => rfl), Lib.hid (.inl HOT.out)⟩
   ·have q : (kX y.st == 124) = false := by simpa using h124
    have htot : TOT = y := by
     rw [HTo.out]
     cases y with
     | error e => rfl
     | ok p =>
       obtain ⟨c0, ts⟩ := p
       have hk : kd ts ≠ 124 := fun e => h124 (by simp [Rd.st, kX, e])
       rw [then_ok]
       cases gk with
       | zero => rfl
       | succ g => rw [eitherLoop, if_neg (by simp [hk])]
    have HTT := Lib.hid htot; clear htot h124 HTo HOo
    have r0 := Blk.cell HLo.out.sd.res 0; have r1 := Blk.cell HLo.out.sd.res 1; have r2 := Blk.cell HLo.out.sd.res 2; have r3 := Blk.cell HLo.out.sd.res 3; have r4 := Blk.cell HLo.out.sd.res 4; have r5 := Blk.cell HLo.out.sd.res 5
    have v0 := Blk.cell HLo.out.var 0; have v1 := Blk.cell HLo.out.var 1; have v2 := Blk.cell HLo.out.var 2; have v3 := Blk.cell HLo.out.var 3; have v4 := Blk.cell HLo.out.var 4; have v5 := Blk.cell HLo.out.var 5
    simp only [List.getElem?_toArray, List.getElem?_cons_zero, List.getElem?_cons_succ] at r0 r1 r2 r3 r4 r5 v0 v1 v2 v3 v4 v5
    have fr := fun i => Blk.frozen HLo.out.sd.res i
    have hfin := reads_six (y := y) (k := k) (lo := lo) (hi := hi) (wt := wt) (nm := nm) (A := A) (n := n) (c := c) (H2 := w.heap.size + 1) (w := w) (by omega) (by omega) HLo.out.st HLo.out.sd.gr (fun t ts e => (HLo.out.tr t ts e).1.keep (fun _ hg => hg.1) (fun _ _ _ _ hx => hx))
    have HFN := Lib.hid hfin; clear hfin
    go_wp2_with fail
    refine bodyPost_ret (v := .agg #[.int .i64 k, .int .i64 lo, .int .i64 hi, .int .i64 wt, .string nm, .slice A n c]) (by simp [results, Tryz.results101, go_sem, r0, r1, r2, r3, r4, r5]) rfl ?_
    have := HFN.out
    rw [<- HTT.out] at this
    exact this
end Go.Proofs.YtalgnnidhnhciaaGreatDoor
namespace Go.Proofs.YtalgnnidhnhciaaGreatDoor
open Go Go.RowKit
theorem either_errS (D : List Bs) (wg : Bool) : ErrSpecS 101 D wg := by
 intro w b s er df rl dp h hN
 refine either_all false D wg dp (fun _ => .error (0, [])) w b s (.error er) df rl (.inr ⟨er, rfl⟩) h hN ?_ (fun n ts _ => Le.err n _)
 intro w' x hx h' hN'
 rcases hx with e | ⟨er', rfl⟩
 ·cases e
 ·exact row_all false D wg dp (fun _ _ => .error (0, [])) (fun e => by cases e) (fun F n ts _ _ => Le.err n _) w' b s (.error er') df rl (.inr ⟨er', rfl⟩) h' hN'
theorem lvlE_le {F n : Nat} {D : List Bs} {wg : Bool} (d : Nat) : ∀ f, lvlE F D wg d = some f -> ∀ ts, ts.length <= n -> Le n (f ts) := by
 intro f hf
 cases d with
 | zero => cases hf
 | succ d => cases hf; exact rex_le d
theorem rex_levels (D : List Bs) (wg : Bool) (d : Nat) (hd : d <= 12) : SpecS 101 D wg (fun F => rexR F D wg d) (12 - d) (fun _ => True) := by
 have fin : ∀ d : Nat, SpecS 154 D wg (fun F => pieceR F D wg (lvlE F D wg d)) (12 - d) (fun ts => begB ts = true) -> SpecS 101 D wg (fun F => rexR F D wg d) (12 - d) (fun _ => True) := by
  intro d hp w b s ts df rl _ h hN
  have hp' : SpecS 154 D wg (fun F => pcR F D wg d) (12 - d) (fun ts => begB ts = true) := by
   rw [show (fun F => pcR F D wg d) = (fun F => pieceR F D wg (lvlE F D wg d)) from funext fun F => pcR_eq F D wg d]
   exact hp
  exact either_all true D wg (12 - d) (rowR (s.data.toList.length + 1) (pcR (s.data.toList.length + 1) D wg d)) w b s (.ok ts) df rl (.inl rfl) h hN
   (fun w' x hx h' hN' => row_all true D wg (12 - d) (fun F => pcR F D wg d) (fun _ => hp') (fun F n ts hb hl => pc_lt d ts hb hl) w' b s x df rl (.inl rfl) h' hN') (fun n ts h => row_le (pc_le d) ts h)
 induction d with
 | zero =>
   exact fin 0 (part_ok D wg 0 hd (bare_ok D wg 0 hd (fun d' e => by omega) (either_errS D wg)) (fun F ts h => bare_le (lvlE_le 0) h))
 | succ d ih =>
   have i := ih (by omega)
   have hei : ∀ d', d + 1 = d' + 1 -> SpecS 101 D wg (fun F => rexR F D wg d') (12 - d') (fun _ => True) := fun d' e => by
    obtain rfl : d = d' := by omega
    exact i
   exact fin (d + 1) (part_ok D wg (d + 1) hd (bare_ok D wg (d + 1) hd hei (either_errS D wg)) (fun F ts h => bare_le (lvlE_le (d + 1)) h))
theorem rex_st (D : List Bs) (wg : Bool) {w : World} {b : Nat} {s : ByteArray} {x : X} {df rl : Value} (h : St w b s x df rl 0) (hN : NamesB w b df D) :
  Calls Tryz.prog 101 #[.agg #[.pointer (some ⟨b, 0, none⟩), .bool wg]] w (Reads_ true w b s (x.into (rexR (s.data.toList.length + 1) D wg 12)) df rl 0) := by
  have h2 := rex_levels D wg 12 (by omega)
  rw [show (12 - ((12 : Nat) : Int)) = 0 by omega] at h2
  exact SpecS.all h2 (either_errS D wg) h hN
end Go.Proofs.YtalgnnidhnhciaaGreatDoor
