/- Contracts of syn's reading of sets: whole sets. Contract of syn's reading of sets: at each depth, what the plain mathematics says. Contracts of syn's reader: cells laid one behind the other; the text's end. -/
import Derived.Test.YtalgnnidhnhciaaGreatDoorShort
import Derived.Test.YtalgnnidhnhciaaGreatDoorUSynV
set_option linter.unusedVariables false
set_option linter.unusedSimpArgs false
set_option maxRecDepth 100000
set_option maxHeartbeats 8000000
namespace Go.Proofs.YtalgnnidhnhciaaGreatDoor
open Go Go.RowKit
attribute [local go_sem] field_sign2 field_sign3
theorem class_ok (okb : Bool) (D : List Bs) (dp : Int) (nt : Toks -> Rd Tree) (w : World) (b : Nat) (s : ByteArray) (x0 : X) (df rl : Value) (h : St w b s x0 df rl dp) (hN : NamesB w b df D)
  (hx0 : okb = true \/ ∃ er, x0 = .error er)
  (hnt : AnySpec okb false 125 D nt b s df rl dp) (hle : ∀ n ts, ts.length <= n -> Le n (nt ts)) :
  Calls Tryz.prog 100 #[.pointer (some ⟨b, 0, none⟩)] w (Reads_ false w b s (x0.into (classR (s.data.toList.length + 1) nt)) df rl dp) := by
  have hblt := h.blt
  have hlen : ∀ ts, x0 = .ok ts -> ts.length <= s.data.toList.length + 1 := fun ts e => by subst e; exact h.len_ok
  obtain ⟨F, hF⟩ : ∃ F, s.data.toList.length + 1 = F := ⟨_, rfl⟩
  rw [hF] at hlen ⊢
  have h2 := h.alloc (.cells #[.int .i64 0, .int .i64 0, .int .i64 0, .string ⟨#[]⟩, .slice none 0 0] 35)
  have hN2 := hN.low.alloc (.cells #[.int .i64 0, .int .i64 0, .int .i64 0, .string ⟨#[]⟩, .slice none 0 0] 35)
  have hB2 : Blk (w.alloc (.cells #[.int .i64 0, .int .i64 0, .int .i64 0, .string ⟨#[]⟩, .slice none 0 0] 35)) w.heap.size 35 #[.int .i64 0, .int .i64 0, .int .i64 0, .string ⟨#[]⟩, .slice none 0 0] := Blk.new _ _ _
  have hz2 : (w.alloc (.cells #[.int .i64 0, .int .i64 0, .int .i64 0, .string ⟨#[]⟩, .slice none 0 0] 35)).heap.size = w.heap.size + 1 := by simp
  have hc := hnt _ x0 hx0 h2 hN2.names
  have htot : x0.into (classR F nt) = (x0.into nt).then_ fun c ts => classLoop nt F c ts := by cases x0 <;> rfl
  obtain ⟨TOT, hTOT⟩ : ∃ TOT, x0.into (classR F nt) = TOT := ⟨_, rfl⟩
  rw [hTOT] at htot ⊢
  obtain ⟨y1, hy1⟩ : ∃ y1, x0.into nt = y1 := ⟨_, rfl⟩
  have hle1 : Le F y1 := by
   rw [<- hy1]
   cases x0 with
   | error e => exact Le.err F e
   | ok ts => exact hle F ts (hlen ts rfl)
  have hok1 : okb = true \/ ∃ er, y1 = .error er := by
   rcases hx0 with h | ⟨er, rfl⟩
   ·exact .inl h
   ·exact .inr ⟨er, hy1.symm⟩
  rw [hy1] at hc htot
  have HOK := Lib.hid hok1
  have HC := Lib.hid hc; have HT := Lib.hid htot; have HLE := Lib.hid hle1; have HN := Lib.hid hN2; have HB := Lib.hid hB2; have HZ := Lib.hid hz2; have HNT := Lib.hid hnt; have HL := Lib.hid hle
  clear hx0 hok1 hc htot hle1 hN2 hB2 hz2 hnt hle h h2 hN hlen hF hTOT hy1
  go_enter Tryz.func100, Tryz.ntmps100
  go_wp2_with fail
  refine HC.out.mono ?_
  rintro e w1 ⟨v, rfl, hv, hT, hS1, hg1⟩
  obtain ⟨k9, lo9, hi9, nm9, A9, n9, c9, rfl⟩ := hv.lit
  have hz1 : w.heap.size < w1.heap.size := by have := hg1.size; rw [HZ.out] at this; omega
  have hL0 : Loops w b w1.heap.size s df rl dp D y1 k9 lo9 hi9 nm9 A9 n9 c9 F (w1.alloc (.cells #[.int .i64 k9, .int .i64 lo9, .int .i64 hi9, .string nm9, .slice A9 n9 c9] 35)) := by
   refine ⟨Blk.alloc (Blk.grown HB.out hg1 (fun e => by injection e with e; omega)) _, Blk.new _ _ _, hS1.alloc _, only_alloc (only_trans (only_alloc (only_refl _ _) _) hg1) _, (HN.out.grown hg1).alloc _, fun t ts e => ⟨?_, HLE.out t ts e⟩⟩
   exact (hT t ts e).bound.keep (fun g hg => by
    have h1 := hg.1
    rw [HZ.out] at h1
    exact ⟨by omega, by have := hg.2; omega, by omega⟩) (fun g _ i x hx => by rw [World.cell?_alloc_past _ _ _ (World.block_lt_of_cell? w1 _ hx)]; exact hx)
  have HL0 := Lib.hid hL0
  clear hL0 hT hS1 hg1 hv
  go_wp2_with fail
  generalize w1.alloc (.cells #[.int .i64 k9, .int .i64 lo9, .int .i64 hi9, .string nm9, .slice A9 n9 c9] 35) = wA at *
  generalize w1.heap.size = H3 at *
  go_loopg [4] F (fun gk v4 wr => ∃ (y : Rd Tree) (k lo hi : Int) (nm : ByteArray) (A : Option Addr) (n c : Nat), Hid (Loops w b H3 s df rl dp D y k lo hi nm A n c gk wr) /\ Hid (TOT = y.then_ fun c ts => classLoop nt gk c ts) /\ Hid (okb = true \/ ∃ er, y = .error er))
  case atStart => exact ⟨y1, k9, lo9, hi9, nm9, A9, n9, c9, HL0, HT, HOK⟩
  case round =>
   clear HL0 HT HB HN HC HLE HOK
   obtain ⟨y, k, lo, hi, nm, A, n, c, HLo, HTo, HOo⟩ := hrel
   have c2 := HLo.out.st.kind
   by_cases h124 : kX y.st = 124
   ·obtain ⟨c0, ts, rfl⟩ : ∃ c0 ts, y = .ok (c0, ts) := by
     cases y with
     | ok p => exact ⟨p.1, p.2, rfl⟩
     | error e => simp [Rd.st, kX] at h124
    have hk : kd ts = 124 := Int.ofNat.inj h124
    have hokt : okb = true := by
     rcases HOo.out with h | ⟨er, e⟩
     ·exact h
     ·cases e
    have q : (kX (Rd.st (.ok (c0, ts) : Rd Tree)) == 124) = true := by simpa using h124
    have q2 : (kX (Rd.st (.ok (c0, ts) : Rd Tree)) == 45) = false := by simp [Rd.st, kX, hk]
    have hlen := (HLo.out.tr c0 ts rfl).2
    have hts : 0 < ts.length := by
     cases ts with
     | nil => simp [kd, hd] at hk
     | cons a r => simp
    obtain ⟨gk', rfl⟩ : ∃ gk', gk = gk' + 1 := ⟨gk - 1, by omega⟩
    have hst := step_st (ts := ts) HLo.out.st (by omega)
    have htot : TOT = ((nxt ts).into nt).then_ fun d t1 => classLoop nt gk' (cTwo 5 c0 d) t1 := by
     rw [HTo.out, then_ok, classLoop, if_pos (by simp [hk])]
    have HST := Lib.hid hst; have HTT := Lib.hid htot; have HK := Lib.hid hk
    have hll : ∀ t t1, (nxt ts).into nt = .ok (t, t1) -> t1.length <= gk' := fun t t1 e => by
     have : Le gk' ((nxt ts).into nt) := by
      cases hn : nxt ts with
      | error z => exact Le.err _ z
      | ok t2 => exact HL.out gk' t2 (by have := nxt_lt (by omega : kd ts ≠ 256) hn; omega)
     exact this t t1 e
    have HLL := Lib.hid hll
    clear hst htot hk h124 hll hlen hts
    go_wp2_with fail
    refine HST.out.mono ?_
    rintro e w2 ⟨rfl, hS2, hg2⟩
    have hq := HLo.out.step hS2 hg2 hblt hz1
    have hzz : H3 < w2.heap.size := Blk.lt hq.2.1
    have hnc := HNT.out w2.drew (nxt ts) (.inl hokt) hS2.drew (show NamesB w2.drew b df D from hq.2.2.2.1.names)
    have HQ := Lib.hid hq; have HNC := Lib.hid hnc; have HS2 := Lib.hid hS2
    have v0 := Blk.cell hq.2.1 0; have v1 := Blk.cell hq.2.1 1; have v2 := Blk.cell hq.2.1 2; have v3 := Blk.cell hq.2.1 3; have v4 := Blk.cell hq.2.1 4
    simp only [List.getElem?_toArray, List.getElem?_cons_zero, List.getElem?_cons_succ] at v0 v1 v2 v3 v4
    clear hq hnc hS2 hg2 HST
    go_wp2_with fail
    refine region_x 6 (fun w' : World => w'.cell? ⟨H3, 0, none⟩ = some (.int .i64 k) /\ w'.cell? ⟨H3, 1, none⟩ = some (.int .i64 lo) /\ w'.cell? ⟨H3, 2, none⟩ = some (.int .i64 hi) /\ w'.cell? ⟨H3, 3, none⟩ = some (.string nm) /\ w'.cell? ⟨H3, 4, none⟩ = some (.slice A n c)) (by kernel_rfl) ?_
    have hS : w2.drew.cell? ⟨H3, 0, none⟩ = some (.int .i64 k) /\ w2.drew.cell? ⟨H3, 1, none⟩ = some (.int .i64 lo) /\ w2.drew.cell? ⟨H3, 2, none⟩ = some (.int .i64 hi) /\ w2.drew.cell? ⟨H3, 3, none⟩ = some (.string nm) /\ w2.drew.cell? ⟨H3, 4, none⟩ = some (.slice A n c) := ⟨v0, v1, v2, v3, v4⟩
    clear v0 v1 v2 v3 v4
    refine tkx (i := 0) (v := ?_) hS ?_ ?_
    rotate_left
    ·rintro w' ⟨s0, s1, s2, s3, s4⟩
     go_simp
     try with_reducible rfl
    try simp only [Act.put, zq1, zq2, zq3, zq4, zq5, zq6]
    refine tkx (i := 1) (v := ?_) hS ?_ ?_
    rotate_left
    ·rintro w' ⟨s0, s1, s2, s3, s4⟩
     go_simp
     try with_reducible rfl
    try simp only [Act.put, zq1, zq2, zq3, zq4, zq5, zq6]
    refine tkx (i := 2) (v := ?_) hS ?_ ?_
    rotate_left
    ·rintro w' ⟨s0, s1, s2, s3, s4⟩
     go_simp
     try with_reducible rfl
    try simp only [Act.put, zq1, zq2, zq3, zq4, zq5, zq6]
    refine anyX_g (i := 3) (by kernel_rfl) (by decide) rfl (by rfl) ?_
    intro K hK
    try simp only [zq1, zq2, zq3]
    refine wp_enterE #[.pointer (some ⟨b, 0, none⟩)] Tryz.func125 (by kernel_rfl) (by kernel_rfl) ?_ HNC.out ?_
    ·go_simp
    rintro e w3 ⟨v, rfl, hv, hT, hS3, hg3⟩
    obtain ⟨k', lo', hi', nm', A', n', c', rfl⟩ := hv.lit
    refine ⟨_, rfl, ?_⟩
    have hg3' : w2.grownBy w3 (some b) := only_trans (only_drew (only_refl w2 (some b))) hg3
    have hLn := Loops.two (kk := 5) HQ.out hblt hz1 hzz hT hS3 hg3' HLL.out
    have hv3 := Blk.grown HQ.out.2.1 hg3' (fun e => by injection e with e; omega)
    have hSw : (fun w' : World => w'.cell? ⟨H3, 0, none⟩ = some (.int .i64 k) /\ w'.cell? ⟨H3, 1, none⟩ = some (.int .i64 lo) /\ w'.cell? ⟨H3, 2, none⟩ = some (.int .i64 hi) /\ w'.cell? ⟨H3, 3, none⟩ = some (.string nm) /\ w'.cell? ⟨H3, 4, none⟩ = some (.slice A n c)) w3 := by
     have v0 := Blk.cell hv3 0; have v1 := Blk.cell hv3 1; have v2 := Blk.cell hv3 2; have v3 := Blk.cell hv3 3; have v4 := Blk.cell hv3 4
     simp only [List.getElem?_toArray, List.getElem?_cons_zero, List.getElem?_cons_succ] at v0 v1 v2 v3 v4
     exact ⟨v0, v1, v2, v3, v4⟩
    refine hK _ _ hSw ?_
    clear hK hS
    have HLN := Lib.hid hLn; have HV3 := Lib.hid hv3
    clear hLn hv hT hS3 hg3 hg3' hv3
    try simp only [Act.put, zq1, zq2, zq3, zq4, zq5, zq6]
    refine anyX_g (i := 4) (by kernel_rfl) (by decide) rfl (by rfl) ?_
    intro K hK
    try simp only [zq1, zq2, zq3]
    go_simp
    have hva := Blk.alloc HV3.out (.cells #[.int .i64 k, .int .i64 lo, .int .i64 hi, .string nm, .slice A n c, .int .i64 k', .int .i64 lo', .int .i64 hi', .string nm', .slice A' n' c'] 35)
    have hSa : (fun w' : World => w'.cell? ⟨H3, 0, none⟩ = some (.int .i64 k) /\ w'.cell? ⟨H3, 1, none⟩ = some (.int .i64 lo) /\ w'.cell? ⟨H3, 2, none⟩ = some (.int .i64 hi) /\ w'.cell? ⟨H3, 3, none⟩ = some (.string nm) /\ w'.cell? ⟨H3, 4, none⟩ = some (.slice A n c)) (w3.alloc (.cells #[.int .i64 k, .int .i64 lo, .int .i64 hi, .string nm, .slice A n c, .int .i64 k', .int .i64 lo', .int .i64 hi', .string nm', .slice A' n' c'] 35)) := by
     have v0 := Blk.cell hva 0; have v1 := Blk.cell hva 1; have v2 := Blk.cell hva 2; have v3 := Blk.cell hva 3; have v4 := Blk.cell hva 4
     simp only [List.getElem?_toArray, List.getElem?_cons_zero, List.getElem?_cons_succ] at v0 v1 v2 v3 v4
     exact ⟨v0, v1, v2, v3, v4⟩
    refine hK _ _ hSa ?_
    clear hK hSw
    try simp only [Act.put, zq1, zq2, zq3, zq4, zq5, zq6]
    refine anyX_g (i := 5) (by kernel_rfl) (by decide) rfl (by rfl) ?_
    intro K hK
    try simp only [zq1, zq2, zq3]
    go_simp
    refine hK _ _ hSa ?_
    clear hK
    try simp only [Act.put, zq1, zq2, zq3, zq4, zq5, zq6]
    refine anyX_last (by kernel_rfl) (by kernel_rfl) rfl rfl ?_
    try simp only [zq1, zq2, zq3]
    obtain ⟨v0, v1, v2, v3, v4⟩ := hSa
    have fv := fun i => Blk.frozen hva i
    clear hva
    go_simp
    apply_assumption
    go_roundg gk'
    case measure => omega
    case rel => exact ⟨_, _, _, _, _, _, _, _, HLN, Lib.hid (by
     rw [HTT.out]
     cases (nxt ts).into nt with
     | error z => rfl
     | ok p => rfl), Lib.hid (.inl hokt)⟩
   by_cases h45 : kX y.st = 45
   ·obtain ⟨c0, ts, rfl⟩ : ∃ c0 ts, y = .ok (c0, ts) := by
     cases y with
     | ok p => exact ⟨p.1, p.2, rfl⟩
     | error e => simp [Rd.st, kX] at h45
    have hk : kd ts = 45 := Int.ofNat.inj h45
    have hokt : okb = true := by
     rcases HOo.out with h | ⟨er, e⟩
     ·exact h
     ·cases e
    have q : (kX (Rd.st (.ok (c0, ts) : Rd Tree)) == 45) = true := by simpa using h45
    have q2 : (kX (Rd.st (.ok (c0, ts) : Rd Tree)) == 124) = false := by simp [Rd.st, kX, hk]
    have hlen := (HLo.out.tr c0 ts rfl).2
    have hts : 0 < ts.length := by
     cases ts with
     | nil => simp [kd, hd] at hk
     | cons a r => simp
    obtain ⟨gk', rfl⟩ : ∃ gk', gk = gk' + 1 := ⟨gk - 1, by omega⟩
    have hst := step_st (ts := ts) HLo.out.st (by omega)
    have htot : TOT = ((nxt ts).into nt).then_ fun d t1 => classLoop nt gk' (cTwo 7 c0 d) t1 := by
     rw [HTo.out, then_ok, classLoop, if_neg (by simp [hk]), if_pos (by simp [hk])]
    have HST := Lib.hid hst; have HTT := Lib.hid htot; have HK := Lib.hid hk
    have hll : ∀ t t1, (nxt ts).into nt = .ok (t, t1) -> t1.length <= gk' := fun t t1 e => by
     have : Le gk' ((nxt ts).into nt) := by
      cases hn : nxt ts with
      | error z => exact Le.err _ z
      | ok t2 => exact HL.out gk' t2 (by have := nxt_lt (by omega : kd ts ≠ 256) hn; omega)
     exact this t t1 e
    have HLL := Lib.hid hll
    clear hst htot hk h45 hll hlen hts
    go_wp2_with fail
    refine HST.out.mono ?_
    rintro e w2 ⟨rfl, hS2, hg2⟩
    have hq := HLo.out.step hS2 hg2 hblt hz1
    have hzz : H3 < w2.heap.size := Blk.lt hq.2.1
    have hnc := HNT.out w2.drew (nxt ts) (.inl hokt) hS2.drew (show NamesB w2.drew b df D from hq.2.2.2.1.names)
    have HQ := Lib.hid hq; have HNC := Lib.hid hnc; have HS2 := Lib.hid hS2
    have v0 := Blk.cell hq.2.1 0; have v1 := Blk.cell hq.2.1 1; have v2 := Blk.cell hq.2.1 2; have v3 := Blk.cell hq.2.1 3; have v4 := Blk.cell hq.2.1 4
    simp only [List.getElem?_toArray, List.getElem?_cons_zero, List.getElem?_cons_succ] at v0 v1 v2 v3 v4
    clear hq hnc hS2 hg2 HST
    go_wp2_with fail
    refine region_x 6 (fun w' : World => w'.cell? ⟨H3, 0, none⟩ = some (.int .i64 k) /\ w'.cell? ⟨H3, 1, none⟩ = some (.int .i64 lo) /\ w'.cell? ⟨H3, 2, none⟩ = some (.int .i64 hi) /\ w'.cell? ⟨H3, 3, none⟩ = some (.string nm) /\ w'.cell? ⟨H3, 4, none⟩ = some (.slice A n c)) (by kernel_rfl) ?_
    have hS : w2.drew.cell? ⟨H3, 0, none⟩ = some (.int .i64 k) /\ w2.drew.cell? ⟨H3, 1, none⟩ = some (.int .i64 lo) /\ w2.drew.cell? ⟨H3, 2, none⟩ = some (.int .i64 hi) /\ w2.drew.cell? ⟨H3, 3, none⟩ = some (.string nm) /\ w2.drew.cell? ⟨H3, 4, none⟩ = some (.slice A n c) := ⟨v0, v1, v2, v3, v4⟩
    clear v0 v1 v2 v3 v4
    refine tkx (i := 0) (v := ?_) hS ?_ ?_
    rotate_left
    ·rintro w' ⟨s0, s1, s2, s3, s4⟩
     go_simp
     try with_reducible rfl
    try simp only [Act.put, zq1, zq2, zq3, zq4, zq5, zq6]
    refine tkx (i := 1) (v := ?_) hS ?_ ?_
    rotate_left
    ·rintro w' ⟨s0, s1, s2, s3, s4⟩
     go_simp
     try with_reducible rfl
    try simp only [Act.put, zq1, zq2, zq3, zq4, zq5, zq6]
    refine tkx (i := 2) (v := ?_) hS ?_ ?_
    rotate_left
    ·rintro w' ⟨s0, s1, s2, s3, s4⟩
     go_simp
     try with_reducible rfl
    try simp only [Act.put, zq1, zq2, zq3, zq4, zq5, zq6]
    refine anyX_g (i := 3) (by kernel_rfl) (by decide) rfl (by rfl) ?_
    intro K hK
    try simp only [zq1, zq2, zq3]
    refine wp_enterE #[.pointer (some ⟨b, 0, none⟩)] Tryz.func125 (by kernel_rfl) (by kernel_rfl) ?_ HNC.out ?_
    ·go_simp
    rintro e w3 ⟨v, rfl, hv, hT, hS3, hg3⟩
    obtain ⟨k', lo', hi', nm', A', n', c', rfl⟩ := hv.lit
    refine ⟨_, rfl, ?_⟩
    have hg3' : w2.grownBy w3 (some b) := only_trans (only_drew (only_refl w2 (some b))) hg3
    have hLn := Loops.two (kk := 7) HQ.out hblt hz1 hzz hT hS3 hg3' HLL.out
    have hv3 := Blk.grown HQ.out.2.1 hg3' (fun e => by injection e with e; omega)
    have hSw : (fun w' : World => w'.cell? ⟨H3, 0, none⟩ = some (.int .i64 k) /\ w'.cell? ⟨H3, 1, none⟩ = some (.int .i64 lo) /\ w'.cell? ⟨H3, 2, none⟩ = some (.int .i64 hi) /\ w'.cell? ⟨H3, 3, none⟩ = some (.string nm) /\ w'.cell? ⟨H3, 4, none⟩ = some (.slice A n c)) w3 := by
     have v0 := Blk.cell hv3 0; have v1 := Blk.cell hv3 1; have v2 := Blk.cell hv3 2; have v3 := Blk.cell hv3 3; have v4 := Blk.cell hv3 4
     simp only [List.getElem?_toArray, List.getElem?_cons_zero, List.getElem?_cons_succ] at v0 v1 v2 v3 v4
     exact ⟨v0, v1, v2, v3, v4⟩
    refine hK _ _ hSw ?_
    clear hK hS
    have HLN := Lib.hid hLn; have HV3 := Lib.hid hv3
    clear hLn hv hT hS3 hg3 hg3' hv3
    try simp only [Act.put, zq1, zq2, zq3, zq4, zq5, zq6]
    refine anyX_g (i := 4) (by kernel_rfl) (by decide) rfl (by rfl) ?_
    intro K hK
    try simp only [zq1, zq2, zq3]
    go_simp
    have hva := Blk.alloc HV3.out (.cells #[.int .i64 k, .int .i64 lo, .int .i64 hi, .string nm, .slice A n c, .int .i64 k', .int .i64 lo', .int .i64 hi', .string nm', .slice A' n' c'] 35)
    have hSa : (fun w' : World => w'.cell? ⟨H3, 0, none⟩ = some (.int .i64 k) /\ w'.cell? ⟨H3, 1, none⟩ = some (.int .i64 lo) /\ w'.cell? ⟨H3, 2, none⟩ = some (.int .i64 hi) /\ w'.cell? ⟨H3, 3, none⟩ = some (.string nm) /\ w'.cell? ⟨H3, 4, none⟩ = some (.slice A n c)) (w3.alloc (.cells #[.int .i64 k, .int .i64 lo, .int .i64 hi, .string nm, .slice A n c, .int .i64 k', .int .i64 lo', .int .i64 hi', .string nm', .slice A' n' c'] 35)) := by
     have v0 := Blk.cell hva 0; have v1 := Blk.cell hva 1; have v2 := Blk.cell hva 2; have v3 := Blk.cell hva 3; have v4 := Blk.cell hva 4
     simp only [List.getElem?_toArray, List.getElem?_cons_zero, List.getElem?_cons_succ] at v0 v1 v2 v3 v4
     exact ⟨v0, v1, v2, v3, v4⟩
    refine hK _ _ hSa ?_
    clear hK hSw
    try simp only [Act.put, zq1, zq2, zq3, zq4, zq5, zq6]
    refine anyX_g (i := 5) (by kernel_rfl) (by decide) rfl (by rfl) ?_
    intro K hK
    try simp only [zq1, zq2, zq3]
    go_simp
    refine hK _ _ hSa ?_
    clear hK
    try simp only [Act.put, zq1, zq2, zq3, zq4, zq5, zq6]
    refine anyX_last (by kernel_rfl) (by kernel_rfl) rfl rfl ?_
    try simp only [zq1, zq2, zq3]
    obtain ⟨v0, v1, v2, v3, v4⟩ := hSa
    have fv := fun i => Blk.frozen hva i
    clear hva
    go_simp
    apply_assumption
    go_roundg gk'
    case measure => omega
    case rel => exact ⟨_, _, _, _, _, _, _, _, HLN, Lib.hid (by
     rw [HTT.out]
     cases (nxt ts).into nt with
     | error z => rfl
     | ok p => rfl), Lib.hid (.inl hokt)⟩
   ·have q : (kX y.st == 124) = false := by simpa using h124
    have q2 : (kX y.st == 45) = false := by simpa using h45
    have htot : TOT = y := by
     rw [HTo.out]
     cases y with
     | error e => rfl
     | ok p =>
       obtain ⟨c0, ts⟩ := p
       have hk : kd ts ≠ 124 := fun e => h124 (by simp [Rd.st, kX, e])
       have hk2 : kd ts ≠ 45 := fun e => h45 (by simp [Rd.st, kX, e])
       rw [then_ok]
       cases gk with
       | zero => rfl
       | succ g => rw [classLoop, if_neg (by simp [hk]), if_neg (by simp [hk2])]
    have HTT := Lib.hid htot; clear htot h124 h45
    have r0 := Blk.cell HLo.out.res 0; have r1 := Blk.cell HLo.out.res 1; have r2 := Blk.cell HLo.out.res 2; have r3 := Blk.cell HLo.out.res 3; have r4 := Blk.cell HLo.out.res 4
    have v0 := Blk.cell HLo.out.var 0; have v1 := Blk.cell HLo.out.var 1; have v2 := Blk.cell HLo.out.var 2; have v3 := Blk.cell HLo.out.var 3; have v4 := Blk.cell HLo.out.var 4
    simp only [List.getElem?_toArray, List.getElem?_cons_zero, List.getElem?_cons_succ] at r0 r1 r2 r3 r4 v0 v1 v2 v3 v4
    have fr := fun i => Blk.frozen HLo.out.res i
    have hfin := reads_five (y := y) hblt HLo.out.st HLo.out.gr (fun t ts e => (HLo.out.tr t ts e).1.keep (fun _ hg => hg.1) (fun _ _ _ _ hx => hx))
    have HFN := Lib.hid hfin; clear hfin
    go_wp2_with fail
    refine bodyPost_ret (v := .agg #[.int .i64 k, .int .i64 lo, .int .i64 hi, .string nm, .slice A n c]) (by simp [results, Tryz.results100, go_sem, r0, r1, r2, r3, r4]) rfl ?_
    have := HFN.out
    rw [<- HTT.out] at this
    exact this
end Go.Proofs.YtalgnnidhnhciaaGreatDoor
namespace Go.Proofs.YtalgnnidhnhciaaGreatDoor
open Go Go.RowKit
theorem not_errS (D : List Bs) : ErrSpec false 152 D := fun _ _ _ _ _ _ _ h _ => not_err h
theorem common_errS (D : List Bs) (nt : Toks -> Rd Tree) (hle : ∀ n ts, ts.length <= n -> Le n (nt ts)) (b : Nat) (s : ByteArray) (df rl : Value) (dp : Int) :
  AnySpec false false 125 D (bothR (s.data.toList.length + 1) nt) b s df rl dp := by
  intro w x hx h hN
  refine common_ok false D dp nt w b s x df rl h hN hx ?_ hle
  intro w' x' hx' h' hN'
  rcases hx' with e | ⟨er, rfl⟩
  ·cases e
  ·exact not_err h'
theorem class_errS (D : List Bs) : ErrSpec false 100 D := by
 intro w b s er df rl dp h hN
 have hle : ∀ n (ts : Toks), ts.length <= n -> Le n ((fun _ => .error (0, [])) ts : Rd Tree) := fun n ts _ => Le.err n _
 exact class_ok false D dp (bothR (s.data.toList.length + 1) (fun _ => .error (0, []))) w b s (.error er) df rl h hN (.inr ⟨er, rfl⟩) (common_errS D _ hle b s df rl dp) (fun n ts h => both_le (fun ts h => hle n ts h) ts h)
theorem levels (D : List Bs) (d : Nat) (hd : d <= 12) : Spec false 152 D (fun F => (lvlC F D d).2) (12 - d) /\ Spec false 100 D (fun F => (lvlC F D d).1) (12 - d) := by
 induction d with
 | zero =>
   have hp := plain_ok D 0 (by omega) (fun d' e => by omega) (class_errS D)
   have hn := not_ok D 0 (by omega) hp (fun d' e => by omega) (not_errS D)
   refine ⟨hn, fun w b s ts df rl h hN => ?_⟩
   have hl := lvl_le (F := s.data.toList.length + 1) (D := D) (n := 0) 0
   have := class_ok true D (12 - ((0 : Nat) : Int)) (bothR (s.data.toList.length + 1) (lvlC (s.data.toList.length + 1) D 0).2) w b s (.ok ts) df rl h hN (.inl rfl) (fun w' x' _ h' hN' => common_ok true D _ _ w' b s x' df rl h' hN' (.inl rfl) (fun w2 x2 _ h2 hN2 => Spec.all hn (not_errS D) h2 hN2) (fun n ts h => (lvl_le 0).2 ts h)) (fun n ts h => both_le (fun ts h => (lvl_le 0).2 ts h) ts h)
   rw [into_ok, <- lvlC_1] at this
   exact this
 | succ d ih =>
   obtain ⟨i1, i2⟩ := ih (by omega)
   have hp := plain_ok D (d + 1) hd (fun d' e => by obtain rfl : d = d' := by omega
                                                    exact i2) (class_errS D)
   have hn := not_ok D (d + 1) hd hp (fun d' e => by obtain rfl : d = d' := by omega
                                                     exact i1) (not_errS D)
   refine ⟨hn, fun w b s ts df rl h hN => ?_⟩
   have := class_ok true D (12 - ((d + 1 : Nat) : Int)) (bothR (s.data.toList.length + 1) (lvlC (s.data.toList.length + 1) D (d + 1)).2) w b s (.ok ts) df rl h hN (.inl rfl) (fun w' x' _ h' hN' => common_ok true D _ _ w' b s x' df rl h' hN' (.inl rfl) (fun w2 x2 _ h2 hN2 => Spec.all hn (not_errS D) h2 hN2) (fun n ts h => (lvl_le (d + 1)).2 ts h)) (fun n ts h => both_le (fun ts h => (lvl_le (d + 1)).2 ts h) ts h)
   rw [into_ok, <- lvlC_1] at this
   exact this
theorem class_st (D : List Bs) {w : World} {b : Nat} {s : ByteArray} {x : X} {df rl : Value} (h : St w b s x df rl 0) (hN : NamesB w b df D) :
  Calls Tryz.prog 100 #[.pointer (some ⟨b, 0, none⟩)] w (Reads_ false w b s (x.into (lvlC (s.data.toList.length + 1) D 12).1) df rl 0) := by
  have h2 := (levels D 12 (by omega)).2
  rw [show (12 - ((12 : Nat) : Int)) = 0 by omega] at h2
  exact Spec.all h2 (class_errS D) h hN
end Go.Proofs.YtalgnnidhnhciaaGreatDoor
namespace Go.Proofs.YtalgnnidhnhciaaGreatDoor
open Go Go.RowKit
def putAt (W : World) (H : Nat) : Nat -> List Value -> World
 | _, [] => W
 | o, v :: l => putAt (W.setCell ⟨H, o, none⟩ v) H (o + 1) l
theorem putAt_cons (W : World) (H o : Nat) (v : Value) (l : List Value) : putAt W H o (v :: l) = putAt (W.setCell ⟨H, o, none⟩ v) H (o + 1) l := rfl
section
variable {w W : World} {b H : Nat} {s : ByteArray} {x : X} {df rl : Value} {dp : Int}
theorem St.put (l : List Value) : ∀ {W : World} (o : Nat), St W b s x df rl dp -> b < H -> St (putAt W H o l) b s x df rl dp := by
 induction l with
 | nil => intro W o h _; exact h
 | cons v l ih => intro W o h hH; exact ih (o + 1) (h.far (q := ⟨H, o, none⟩) hH v) hH
theorem only_put {row : Option Nat} (l : List Value) : ∀ {W : World} (o : Nat), w.grownBy W row -> w.heap.size <= H -> w.grownBy (putAt W H o l) row := by
 induction l with
 | nil => intro W o h _; exact h
 | cons v l ih => intro W o h hH; exact ih (o + 1) (only_new h (p := ⟨H, o, none⟩) hH v) hH
theorem put_cell (l : List Value) (g i : Nat) (hne : g ≠ H) : ∀ (W : World) (o : Nat), (putAt W H o l).cell? ⟨g, i, none⟩ = W.cell? ⟨g, i, none⟩ := by
 induction l with
 | nil => intro W o; rfl
 | cons v l ih =>
   intro W o
   rw [putAt_cons, ih, World.cell?_setCell_other _ _ _ _ (fun e => hne (by injection e with e1; exact e1.symm))]
theorem TreeV.put {r : Bool} {S S' : Nat -> Prop} {v : Value} {t : Tree} (l : List Value) (o : Nat) (h : TreeV r W S v t) (hS : ∀ g, S g -> S' g) (hne : ∀ g, S g -> g ≠ H) : TreeV r (putAt W H o l) S' v t :=
 h.keep hS (fun g hg i x hx => by rw [put_cell l g i (hne g hg)]; exact hx)
theorem Blk.put_far {t : TypeId} {cs : Array Value} {g : Nat} (l : List Value) (hne : g ≠ H) : ∀ {W : World} (o : Nat), Blk W g t cs -> Blk (putAt W H o l) g t cs := by
 induction l with
 | nil => intro W o h; exact h
 | cons v l ih => intro W o h; exact ih (o + 1) (Blk.far h (p := ⟨H, o, none⟩) hne v)
def setMany (cs : Array Value) : Nat -> List Value -> Array Value
 | _, [] => cs
 | o, v :: l => setMany (cs.setIfInBounds o v) (o + 1) l
theorem Blk.put {t : TypeId} (l : List Value) : ∀ {W : World} {cs : Array Value} (o : Nat), Blk W H t cs -> Blk (putAt W H o l) H t (setMany cs o l) := by
 induction l with
 | nil => intro W cs o h; exact h
 | cons v l ih => intro W cs o h; exact ih (o + 1) (Blk.set_ h o v)
theorem NamesB.put {D : List Bs} (l : List Value) (o : Nat) (h : NamesB W b df D) (hH : NamesW H W b df D) : NamesB (putAt W H o l) b df D :=
 (hH.keep fun g _ hlt i y hy => by rw [put_cell l g i (by omega)]; exact hy).names
theorem NamesW.put {B : Nat} {D : List Bs} (l : List Value) (o : Nat) (h : NamesW B W b df D) (hH : B <= H) : NamesW B (putAt W H o l) b df D :=
 h.keep fun g _ hlt i y hy => by rw [put_cell l g i (by omega)]; exact hy
end
def Fin_ (s : ByteArray) (p : PS) : X -> Prop
 | .ok _ => p.e = 0
 | .error (e, ts) => p.e = e /\ e ≠ 0 /\ p.place = posT s.data.toList ts.length
def endX (x : X) : X := x.on fun ts => if kd ts == 256 then .ok ts else .error (1, ts)
def FinW (b : Nat) (s : ByteArray) (x : X) (df rl : Value) (w' : World) : Prop := ∃ p, Cel w' b s p /\ Fin_ s p x /\ p.defs = df /\ p.rules = rl
theorem FinW.far {b : Nat} {s : ByteArray} {x : X} {df rl : Value} {w' : World} (h : FinW b s x df rl w') {q : Addr} (hq : b < q.block) (u : Value) : FinW b s x df rl (w'.setCell q u) := by
 obtain ⟨p, h1, h2⟩ := h
 exact ⟨p, h1.far (by omega) u, h2⟩
theorem fin_failed {s : ByteArray} {p : PS} {x : X} (h : RelX s p x) (hk : kX x ≠ 256) : Fin_ s (p.failed 1) (endX x) := by
 cases x with
 | ok ts =>
   obtain ⟨h1, h2, h3, h4, h5⟩ := h.at_
   have hk' : kd ts ≠ 256 := fun e => hk (by simp [kX, e])
   have he : endX (.ok ts) = .error (1, ts) := by simp [endX, X.on, hk']
   rw [he]
   unfold PS.failed
   rw [if_pos h2]
   exact ⟨rfl, by decide, h1⟩
 | error er =>
   obtain ⟨e, ts⟩ := er
   obtain ⟨h1, h2, h3⟩ := h
   show (p.failed 1).e = e /\ _
   unfold PS.failed
   rcases h3 with ⟨a1, a2, a3⟩ | ⟨a1, a2, a3⟩
   ·rw [if_neg (by rw [a1]; omega)]
    exact ⟨a1, a2, a3⟩
   ·rw [if_pos a2]
    exact ⟨by rw [a1]; rfl, by omega, a3⟩
theorem take_end {w : World} {b : Nat} {s : ByteArray} {x : X} {df rl : Value} {dp : Int} (h : St w b s x df rl dp) : Calls Tryz.prog 77 #[.pointer (some ⟨b, 0, none⟩), .int .i64 256] w fun e w' =>
  ∃ (kk aa n : Int) (wd : ByteArray) (lg : Bool), e = .returned (.agg #[.int .i64 kk, .int .i64 aa, .string wd, .int .i64 n, .bool lg]) /\ FinW b s (endX x) df rl w' /\ w.grownBy w' (some b) := by
  have hlt := h.blt
  have hlt2 := h.lt
  obtain ⟨p, hC, hR, hd1, hd2, hd3⟩ := h.ex
  have hkk := hR.kind
  have hE := h.err
  have hlen := h.len
  have c2 := hC.c2; have c3 := hC.c3; have c4 := hC.c4; have c5 := hC.c5; have c6 := hC.c6
  by_cases hc : kX x = 256
  ·have hx : ∃ ts, x = .ok ts := by
    cases x with
    | ok ts => exact ⟨ts, rfl⟩
    | error e => simp [kX] at hc
   obtain ⟨ts, rfl⟩ := hx
   have hkd : kd ts = 256 := Int.ofNat.inj hc
   have hon : endX (.ok ts) = .ok ts := by simp [endX, X.on, hkd]
   obtain ⟨d, pre, l, t, k, g1, g2, g3, g4, g5, g6, g7, g8, g9, g10, g11, g12, g13, g14, g15⟩ := hR
   have htk : t.kind = 256 := by rw [g2] at hkd; exact hkd
   have hdr := g15 htk
   have hst : ∀ W, Cel W b s p -> ErrV W -> Calls Tryz.prog 40 #[.pointer (some ⟨b, 0, none⟩)] W fun e w' => e = .returned (.tuple #[]) /\ FinW b s (.ok ts) df rl w' /\ W.grownBy w' (some b) := fun W hW hEW => by
    refine (step_any W b s p d hW g11 g3 g4 hlen hEW (by omega)).mono ?_
    rintro e w' ⟨p', rfl, ⟨r, g, q1, q2, q3, q4, q5, q6, q7, q8⟩, hL, hg⟩
    refine ⟨rfl, ⟨p', hL, ?_, by rw [q4, hd1], by rw [q5, hd2]⟩, hg⟩
    rw [hdr] at q1
    have hgl : g.large = false := by rw [q2, q1]; rfl
    rcases q8 with ⟨a, _⟩ | ⟨_, _, _, _, _, a, _⟩
    ·rw [hgl] at a; cases a
    ·exact a
   rw [hkk, hc] at c2
   have HC := Lib.hid hC; have HE := Lib.hid hE; have HST := Lib.hid hst; have HON := Lib.hid hon
   clear h hst hon hkd hkk hc hC hd1 hd2 hd3 hE g1 g2 g3 g4 g5 g6 g7 g8 g9 g10 g11 g12 g13 g14 g15 htk hdr hlt2 hlen
   go_enter Tryz.func77, Tryz.ntmps77
   go_wp2_with fail
   refine (HST.out _ ((HC.out.alloc _).alloc _) ((HE.out.alloc _).alloc _)).mono ?_
   rintro e w1 ⟨rfl, hS1, hg1⟩
   have hr1 : Blk w1 w.heap.size 91 #[.int .i64 0, .int .i64 0, .string ⟨#[]⟩, .int .i64 0, .bool false] := Blk.grown (Blk.alloc (Blk.new w _ _) _) hg1 (fun e => by injection e with e; omega)
   have hr2 : Blk w1 (w.heap.size + 1) 91 #[.int .i64 256, .int .i64 p.at_, .string p.word, .int .i64 p.n, .bool p.large] := by
    have := Blk.new (w.alloc (.cells #[.int .i64 0, .int .i64 0, .string ⟨#[]⟩, .int .i64 0, .bool false] 91)) 91 #[.int .i64 256, .int .i64 p.at_, .string p.word, .int .i64 p.n, .bool p.large]
    have e : (w.alloc (.cells #[.int .i64 0, .int .i64 0, .string ⟨#[]⟩, .int .i64 0, .bool false] 91)).heap.size = w.heap.size + 1 := by simp
    rw [e] at this
    exact Blk.grown this hg1 (fun e => by injection e with e; omega)
   have r0 := Blk.cell hr1 0; have r1 := Blk.cell hr1 1; have r2 := Blk.cell hr1 2; have r3 := Blk.cell hr1 3; have r4 := Blk.cell hr1 4
   have v0 := Blk.cell hr2 0; have v1 := Blk.cell hr2 1; have v2 := Blk.cell hr2 2; have v3 := Blk.cell hr2 3; have v4 := Blk.cell hr2 4
   simp only [List.getElem?_toArray, List.getElem?_cons_zero, List.getElem?_cons_succ] at r0 r1 r2 r3 r4 v0 v1 v2 v3 v4
   have fr := fun i => Blk.frozen hr1 i
   have HS1 := Lib.hid hS1; have HG1 := Lib.hid hg1
   clear hr1 hr2 hS1 hg1
   go_wp2_with fail
   refine bodyPost_ret (v := .agg #[.int .i64 256, .int .i64 p.at_, .string p.word, .int .i64 p.n, .bool p.large]) (by simp [results, Tryz.results77, go_sem, r0, r1, r2, r3, r4]) rfl ?_
   refine ⟨256, p.at_, p.n, p.word, p.large, rfl, ?_, ?_⟩
   ·rw [HON.out]
    exact ((((HS1.out.far (by exact hlt) _).far (by exact hlt) _).far (by exact hlt) _).far (by exact hlt) _).far (by exact hlt) _
   ·have hg := only_trans (only_alloc (only_alloc (only_refl w (some b)) _) _) HG1.out
    exact only_new (only_new (only_new (only_new (only_new hg (Nat.le_refl _) _) (Nat.le_refl _) _) (Nat.le_refl _) _) (Nat.le_refl _) _) (Nat.le_refl _) _
  ·have hfin := fin_failed hR hc
   have hst : ∀ W, Cel W b s p -> Calls Tryz.prog 74 #[.pointer (some ⟨b, 0, none⟩), .int .i64 1] W fun e w' => e = .returned (.tuple #[]) /\ FinW b s (endX x) df rl w' /\ W.grownBy w' (some b) := fun W hW => by
    refine (fail_any W b s p 1 hW).mono ?_
    rintro e w' ⟨rfl, hL, hg⟩
    obtain ⟨q1, q2, q3⟩ := p.failed_rest 1
    exact ⟨rfl, ⟨_, hL, hfin, by rw [q1, hd1], by rw [q2, hd2]⟩, hg⟩
   have q : (kX x != (256 : Int)) = true := by simpa using hc
   rw [hkk] at c2
   have HC := Lib.hid hC; have HST := Lib.hid hst
   clear h hst hkk hc hC hR hd1 hd2 hd3 hE hfin hlt2 hlen
   go_enter Tryz.func77, Tryz.ntmps77
   go_wp2_with fail
   refine (HST.out _ ((HC.out.alloc _).alloc _)).mono ?_
   rintro e w1 ⟨rfl, hS1, hg1⟩
   have hr1 : Blk w1 w.heap.size 91 #[.int .i64 0, .int .i64 0, .string ⟨#[]⟩, .int .i64 0, .bool false] := Blk.grown (Blk.alloc (Blk.new w _ _) _) hg1 (fun e => by injection e with e; omega)
   have r0 := Blk.cell hr1 0; have r1 := Blk.cell hr1 1; have r2 := Blk.cell hr1 2; have r3 := Blk.cell hr1 3; have r4 := Blk.cell hr1 4
   simp only [List.getElem?_toArray, List.getElem?_cons_zero, List.getElem?_cons_succ] at r0 r1 r2 r3 r4
   have fr := fun i => Blk.frozen hr1 i
   have HS1 := Lib.hid hS1; have HG1 := Lib.hid hg1
   clear hr1 hS1 hg1
   go_wp2_with fail
   refine bodyPost_ret (v := .agg #[.int .i64 0, .int .i64 0, .string ⟨#[]⟩, .int .i64 0, .bool false]) (by simp [results, Tryz.results77, go_sem, r0, r1, r2, r3, r4]) rfl ?_
   refine ⟨0, 0, 0, ⟨#[]⟩, false, rfl, ?_, ?_⟩
   ·exact ((((HS1.out.far (by exact hlt) _).far (by exact hlt) _).far (by exact hlt) _).far (by exact hlt) _).far (by exact hlt) _
   ·have hg := only_trans (only_alloc (only_alloc (only_refl w (some b)) _) _) HG1.out
    exact only_new (only_new (only_new (only_new (only_new hg (Nat.le_refl _) _) (Nat.le_refl _) _) (Nat.le_refl _) _) (Nat.le_refl _) _) (Nat.le_refl _) _
end Go.Proofs.YtalgnnidhnhciaaGreatDoor
