/- Contract of syn's reading of one rule. -/
import Derived.Test.YtalgnnidhnhciaaGreatDoorUSynRg
import Derived.Test.YtalgnnidhnhciaaGreatDoorUSynX
set_option linter.unusedVariables false
set_option linter.unusedSimpArgs false
set_option maxRecDepth 100000
set_option maxHeartbeats 8000000
namespace Go.Proofs.YtalgnnidhnhciaaGreatDoor
open Go Go.RowKit
attribute [local go_sem] field_sign2 field_sign3
def ReadsU (w : World) (b : Nat) (s : ByteArray) (y : Rd RuleT) (df rl : Value) (e : Ending) (w' : World) : Prop :=
 ∃ (cat cost : Int) (k1 lo1 hi1 wt1 : Int) (nm1 : ByteArray) (A1 : Option Addr) (n1 c1 : Nat) (k2 lo2 hi2 wt2 : Int) (nm2 : ByteArray) (A2 : Option Addr) (n2 c2 : Nat), e = .returned (.agg #[.int .i64 cat, .int .i64 cost, .int .i64 k1, .int .i64 lo1, .int .i64 hi1, .int .i64 wt1, .string nm1, .slice A1 n1 c1, .int .i64 k2, .int .i64 lo2, .int .i64 hi2, .int .i64 wt2, .string nm2, .slice A2 n2 c2]) /\
   (∀ r ts, y = .ok (r, ts) -> cat = r.cat /\ cost = r.cost /\ TreeV true w' (fun g => w.heap.size <= g) (.agg #[.int .i64 k1, .int .i64 lo1, .int .i64 hi1, .int .i64 wt1, .string nm1, .slice A1 n1 c1]) r.left /\ TreeV true w' (fun g => w.heap.size <= g) (.agg #[.int .i64 k2, .int .i64 lo2, .int .i64 hi2, .int .i64 wt2, .string nm2, .slice A2 n2 c2]) r.right) /\ St w' b s y.st df rl 0 /\ w.grownBy w' (some b)
theorem rule_chain (F : Nat) (D : List Bs) (ts : Toks) (x1 x2 x3 x5 x7 : X) (y4 y6 : Rd Tree) (h1 : nxt ts = x1) (h2 : x1.on (tk 259) = x2) (h3 : x2.on (tk 58) = x3) (h4 : x3.into (rexR F D true 12) = y4) (h5 : y4.st.on (tk 47) = x5) (h6 : x5.into (rexR F D false 12) = y6) (h7 : y6.st.on (tk 59) = x7) :
  (ruleR F D ts).st = x7 /\ ∀ r t, ruleR F D ts = .ok (r, t) -> ∃ t1 t4 t6, x1 = .ok t1 /\ kd t1 = 259 /\ r.cat = ((kd ts - 263 : Nat) : Int) /\ r.cost = (hd t1).n /\ y4 = .ok (r.left, t4) /\ y6 = .ok (r.right, t6) := by
  unfold ruleR
  rw [h1]
  cases x1 with
  | error e => subst h2; subst h3; subst h4; subst h5; subst h6; subst h7; exact ⟨rfl, fun r t e => by cases e⟩
  | ok t1 =>
    rw [into_ok]
    have h2' : tk 259 t1 = x2 := h2
    rw [h2']
    cases x2 with
    | error e => subst h3; subst h4; subst h5; subst h6; subst h7; exact ⟨rfl, fun r t e => by cases e⟩
    | ok t2 =>
      rw [into_ok]
      have hk1 : kd t1 = 259 := by
       unfold tk at h2'
       split at h2'
       ·next q => simpa using q
       ·cases h2'
      have h3' : tk 58 t2 = x3 := h3
      rw [h3']
      cases x3 with
      | error e => subst h4; subst h5; subst h6; subst h7; exact ⟨rfl, fun r t e => by cases e⟩
      | ok t3 =>
        rw [into_ok]
        have h4' : rexR F D true 12 t3 = y4 := h4
        rw [h4']
        cases y4 with
        | error e => subst h5; subst h6; subst h7; exact ⟨rfl, fun r t e => by cases e⟩
        | ok p =>
          obtain ⟨a, t4⟩ := p
          rw [then_ok]
          have h5' : tk 47 t4 = x5 := h5
          rw [h5']
          cases x5 with
          | error e => subst h6; subst h7; exact ⟨rfl, fun r t e => by cases e⟩
          | ok t5 =>
            rw [into_ok]
            have h6' : rexR F D false 12 t5 = y6 := h6
            rw [h6']
            cases y6 with
            | error e => subst h7; exact ⟨rfl, fun r t e => by cases e⟩
            | ok p =>
              obtain ⟨a2, t6⟩ := p
              rw [then_ok]
              have h7' : tk 59 t6 = x7 := h7
              rw [h7']
              refine ⟨give_st _ _, fun r t e => ?_⟩
              cases x7 with
              | error z => cases e
              | ok z => cases e; exact ⟨t1, t4, t6, rfl, hk1, rfl, rfl, rfl, rfl⟩
theorem rule_st (D : List Bs) {w : World} {b : Nat} {s : ByteArray} {ts : Toks} {df rl : Value} (h : St w b s (.ok ts) df rl 0) (hk0 : 263 <= kd ts) (hk9 : kd ts <= 265) (hN : NamesB w b df D) :
  Calls Tryz.prog 76 #[.pointer (some ⟨b, 0, none⟩)] w (ReadsU w b s (ruleR (s.data.toList.length + 1) D ts) df rl) := by
  have hblt := h.blt
  obtain ⟨F, hF⟩ : ∃ F, s.data.toList.length + 1 = F := ⟨_, rfl⟩
  have hrex : ∀ wg W x, St W b s x df rl 0 -> NamesB W b df D -> Calls Tryz.prog 101 #[.agg #[.pointer (some ⟨b, 0, none⟩), .bool wg]] W (Reads_ true W b s (x.into (rexR F D wg 12)) df rl 0) := fun wg W x hW hNW => by
   have := rex_st D wg hW hNW
   rw [hF] at this; exact this
  rw [hF]
  obtain ⟨x1, hx1⟩ : ∃ x1, nxt ts = x1 := ⟨_, rfl⟩
  obtain ⟨x2, hx2⟩ : ∃ x2, x1.on (tk 259) = x2 := ⟨_, rfl⟩
  obtain ⟨x3, hx3⟩ : ∃ x3, x2.on (tk 58) = x3 := ⟨_, rfl⟩
  obtain ⟨y4, hy4⟩ : ∃ y4, x3.into (rexR F D true 12) = y4 := ⟨_, rfl⟩
  obtain ⟨x5, hx5⟩ : ∃ x5, y4.st.on (tk 47) = x5 := ⟨_, rfl⟩
  obtain ⟨y6, hy6⟩ : ∃ y6, x5.into (rexR F D false 12) = y6 := ⟨_, rfl⟩
  obtain ⟨x7, hx7⟩ : ∃ x7, y6.st.on (tk 59) = x7 := ⟨_, rfl⟩
  obtain ⟨hc1, hc2⟩ := rule_chain F D ts x1 x2 x3 x5 x7 y4 y6 hx1 hx2 hx3 hy4 hx5 hy6 hx7
  obtain ⟨Y, hY⟩ : ∃ Y, ruleR F D ts = Y := ⟨_, rfl⟩
  rw [hY] at hc1 hc2 ⊢
  obtain ⟨K, hK⟩ : ∃ K : Int, (kd ts : Int) = K := ⟨_, rfl⟩
  have b0 : 263 <= K := by omega
  have b1 : K <= 265 := by omega
  have hcat : ((kd ts - 263 : Nat) : Int) = K - 263 := by omega
  have hn256 : kd ts ≠ 256 := by omega
  have h0 := (h.alloc (.cells #[.int .i64 0, .int .i64 0, .int .i64 0, .int .i64 0, .int .i64 0, .int .i64 0, .string ⟨#[]⟩, .slice none 0 0, .int .i64 0, .int .i64 0, .int .i64 0, .int .i64 0, .string ⟨#[]⟩, .slice none 0 0] 56)).alloc (.cells #[.int .i64 (K - 263), .int .i64 0, .int .i64 0, .int .i64 0, .int .i64 0, .int .i64 0, .string ⟨#[]⟩, .slice none 0 0, .int .i64 0, .int .i64 0, .int .i64 0, .int .i64 0, .string ⟨#[]⟩, .slice none 0 0] 56)
  have hc := step_st h0 hn256
  rw [hx1] at hc
  have c2 := (h.alloc (.cells #[.int .i64 0, .int .i64 0, .int .i64 0, .int .i64 0, .int .i64 0, .int .i64 0, .string ⟨#[]⟩, .slice none 0 0, .int .i64 0, .int .i64 0, .int .i64 0, .int .i64 0, .string ⟨#[]⟩, .slice none 0 0] 56)).kind
  have hkx : kX (.ok ts) = K := hK
  rw [hkx] at c2
  have hz : (w.alloc (.cells #[.int .i64 0, .int .i64 0, .int .i64 0, .int .i64 0, .int .i64 0, .int .i64 0, .string ⟨#[]⟩, .slice none 0 0, .int .i64 0, .int .i64 0, .int .i64 0, .int .i64 0, .string ⟨#[]⟩, .slice none 0 0] 56)).heap.size = w.heap.size + 1 := by simp
  have hB := Blk.alloc (Blk.new w 56 #[.int .i64 0, .int .i64 0, .int .i64 0, .int .i64 0, .int .i64 0, .int .i64 0, .string ⟨#[]⟩, .slice none 0 0, .int .i64 0, .int .i64 0, .int .i64 0, .int .i64 0, .string ⟨#[]⟩, .slice none 0 0]) (.cells #[.int .i64 (K - 263), .int .i64 0, .int .i64 0, .int .i64 0, .int .i64 0, .int .i64 0, .string ⟨#[]⟩, .slice none 0 0, .int .i64 0, .int .i64 0, .int .i64 0, .int .i64 0, .string ⟨#[]⟩, .slice none 0 0] 56)
  have hV := Blk.new (w.alloc (.cells #[.int .i64 0, .int .i64 0, .int .i64 0, .int .i64 0, .int .i64 0, .int .i64 0, .string ⟨#[]⟩, .slice none 0 0, .int .i64 0, .int .i64 0, .int .i64 0, .int .i64 0, .string ⟨#[]⟩, .slice none 0 0] 56)) 56 #[.int .i64 (K - 263), .int .i64 0, .int .i64 0, .int .i64 0, .int .i64 0, .int .i64 0, .string ⟨#[]⟩, .slice none 0 0, .int .i64 0, .int .i64 0, .int .i64 0, .int .i64 0, .string ⟨#[]⟩, .slice none 0 0]
  rw [hz] at hV
  have hN0 := (hN.low.alloc (.cells #[.int .i64 0, .int .i64 0, .int .i64 0, .int .i64 0, .int .i64 0, .int .i64 0, .string ⟨#[]⟩, .slice none 0 0, .int .i64 0, .int .i64 0, .int .i64 0, .int .i64 0, .string ⟨#[]⟩, .slice none 0 0] 56)).alloc (.cells #[.int .i64 (K - 263), .int .i64 0, .int .i64 0, .int .i64 0, .int .i64 0, .int .i64 0, .string ⟨#[]⟩, .slice none 0 0, .int .i64 0, .int .i64 0, .int .i64 0, .int .i64 0, .string ⟨#[]⟩, .slice none 0 0] 56)
  have hG := only_alloc (only_alloc (only_refl w (some b)) (.cells #[.int .i64 0, .int .i64 0, .int .i64 0, .int .i64 0, .int .i64 0, .int .i64 0, .string ⟨#[]⟩, .slice none 0 0, .int .i64 0, .int .i64 0, .int .i64 0, .int .i64 0, .string ⟨#[]⟩, .slice none 0 0] 56)) (.cells #[.int .i64 (K - 263), .int .i64 0, .int .i64 0, .int .i64 0, .int .i64 0, .int .i64 0, .string ⟨#[]⟩, .slice none 0 0, .int .i64 0, .int .i64 0, .int .i64 0, .int .i64 0, .string ⟨#[]⟩, .slice none 0 0] 56)
  have HC := Lib.hid hc; have HB := Lib.hid hB; have HV := Lib.hid hV; have HN := Lib.hid hN0; have HG := Lib.hid hG; have HC1 := Lib.hid hc1; have HC2 := Lib.hid hc2; have HRX := Lib.hid hrex; have HCAT := Lib.hid hcat
  have HX2 := Lib.hid hx2; have HX3 := Lib.hid hx3; have HX5 := Lib.hid hx5; have HX7 := Lib.hid hx7; have HY4 := Lib.hid hy4; have HY6 := Lib.hid hy6
  clear hc hB hV hN0 hG hc1 hc2 hrex hcat hx1 hx2 hx3 hx5 hx7 hy4 hy6 hY hF h0 h hN hz hK hk0 hk9 hn256 hkx
  go_enter Tryz.func76, Tryz.ntmps76
  go_wp2_with fail
  refine HC.out.mono ?_
  rintro e w1 ⟨rfl, hS1, hg1⟩
  have hB1 := Blk.grown HB.out hg1 (fun e => by injection e with e; omega)
  have hV1 := Blk.grown HV.out hg1 (fun e => by injection e with e; omega)
  have hN1 := HN.out.grown hg1
  have hG1 := only_trans HG.out hg1
  have hz1 : w.heap.size + 1 < w1.heap.size := Blk.lt hV1
  have htk := take_y hS1 259 x2 HX2.out (by omega) (by omega) 259 rfl
  have HTK := Lib.hid htk
  clear HB HV HN HG
  have HB := Lib.hid hB1; have HV := Lib.hid hV1; have HN := Lib.hid hN1; have HG := Lib.hid hG1
  clear hB1 hV1 hN1 hG1 hg1 hS1 htk HC
  go_wp2_with fail
  refine HTK.out.mono ?_
  rintro e w2 ⟨kk2, aa2, cost, wd2, lg2, rfl, hco, hS2, hg2⟩
  have hB2 := Blk.grown HB.out hg2 (fun e => by injection e with e; omega)
  have hV2 := Blk.grown HV.out hg2 (fun e => by injection e with e; omega)
  have hN2 := HN.out.grown hg2
  have hG2 := only_trans HG.out hg2
  have hz2 : w.heap.size + 1 < w2.heap.size := Blk.lt hV2
  have hS2p := hS2.put (H := w.heap.size + 1) [.int .i64 cost] 1 (by omega)
  have hB2p := Blk.put_far (H := w.heap.size + 1) [.int .i64 cost] (by omega) 1 hB2
  have hV2p := Blk.put [.int .i64 cost] 1 hV2
  have hN2p := hN2.put (H := w.heap.size + 1) [.int .i64 cost] 1 (by omega)
  have hG2p := only_put (H := w.heap.size + 1) [.int .i64 cost] 1 hG2 (by omega)
  simp [setMany] at hV2p
  have htk := take_y hS2p 58 x3 HX3.out (by omega) (by omega) 58 rfl
  have fv := fun i => Blk.frozen hV2 i
  have v0 := Blk.cell hV2 0; have v1 := Blk.cell hV2 1
  simp only [List.getElem?_toArray, List.getElem?_cons_zero, List.getElem?_cons_succ] at v0 v1
  simp only [putAt, Nat.reduceAdd] at htk hB2p hV2p hN2p hG2p
  have HCO := Lib.hid hco
  clear HB HV HN HG HTK
  have HTK := Lib.hid htk; have HB := Lib.hid hB2p; have HV := Lib.hid hV2p; have HN := Lib.hid hN2p; have HG := Lib.hid hG2p
  clear htk hB2 hV2 hN2 hG2 hB2p hV2p hN2p hG2p hS2 hS2p hg2 hco
  go_wp2_with fail
  refine HTK.out.mono ?_
  rintro e w3 ⟨kk3, aa3, n3, wd3, lg3, rfl, -, hS3, hg3⟩
  have hB3 := Blk.grown HB.out hg3 (fun e => by injection e with e; omega)
  have hV3 := Blk.grown HV.out hg3 (fun e => by injection e with e; omega)
  have hN3 := HN.out.grown hg3
  have hG3 := only_trans HG.out hg3
  have hz3 : w.heap.size + 1 < w3.heap.size := Blk.lt hV3
  have hrx := HRX.out true w3 x3 hS3 hN3.names
  rw [HY4.out] at hrx
  have HR := Lib.hid hrx
  clear v0 v1 fv
  clear HB HV HN HG
  have HB := Lib.hid hB3; have HV := Lib.hid hV3; have HN := Lib.hid hN3; have HG := Lib.hid hG3
  clear hB3 hV3 hN3 hG3 hg3 hS3 hrx HTK
  go_wp2_with fail
  refine HR.out.mono ?_
  rintro e w4 ⟨v, rfl, hv, hT, hS4, hg4⟩
  obtain ⟨k1, lo1, hi1, wt1, nm1, A1, n1, c1, rfl⟩ := hv.lit6
  have hB4 := Blk.grown HB.out hg4 (fun e => by injection e with e; omega)
  have hV4 := Blk.grown HV.out hg4 (fun e => by injection e with e; omega)
  have hN4 := HN.out.grown hg4
  have hG4 := only_trans HG.out hg4
  have hz4 : w.heap.size + 1 < w4.heap.size := Blk.lt hV4
  have hS4p := hS4.put (H := w.heap.size + 1) [.int .i64 k1, .int .i64 lo1, .int .i64 hi1, .int .i64 wt1, .string nm1, .slice A1 n1 c1] 2 (by omega)
  have hB4p := Blk.put_far (H := w.heap.size + 1) [.int .i64 k1, .int .i64 lo1, .int .i64 hi1, .int .i64 wt1, .string nm1, .slice A1 n1 c1] (by omega) 2 hB4
  have hV4p := Blk.put [.int .i64 k1, .int .i64 lo1, .int .i64 hi1, .int .i64 wt1, .string nm1, .slice A1 n1 c1] 2 hV4
  have hN4p := hN4.put (H := w.heap.size + 1) [.int .i64 k1, .int .i64 lo1, .int .i64 hi1, .int .i64 wt1, .string nm1, .slice A1 n1 c1] 2 (by omega)
  have hG4p := only_put (H := w.heap.size + 1) [.int .i64 k1, .int .i64 lo1, .int .i64 hi1, .int .i64 wt1, .string nm1, .slice A1 n1 c1] 2 hG4 (by omega)
  have hT4p : ∀ t ts, y4 = .ok (t, ts) -> TreeV true (putAt w4 (w.heap.size + 1) 2 [.int .i64 k1, .int .i64 lo1, .int .i64 hi1, .int .i64 wt1, .string nm1, .slice A1 n1 c1]) (fun g => w.heap.size + 1 < g /\ g ≠ b) (.agg #[.int .i64 k1, .int .i64 lo1, .int .i64 hi1, .int .i64 wt1, .string nm1, .slice A1 n1 c1]) t := fun t ts e =>
   TreeV.put _ 2 (hT t ts e) (fun g hg => ⟨by omega, by omega⟩) (fun g hg => by omega)
  simp [setMany] at hV4p
  have htk := take_y hS4p 47 x5 HX5.out (by omega) (by omega) 47 rfl
  have fv := fun i => Blk.frozen hV4 i
  have v0 := Blk.cell hV4 0; have v1 := Blk.cell hV4 1; have v2 := Blk.cell hV4 2; have v3 := Blk.cell hV4 3; have v4 := Blk.cell hV4 4; have v5 := Blk.cell hV4 5; have v6 := Blk.cell hV4 6; have v7 := Blk.cell hV4 7; have v8 := Blk.cell hV4 8; have v9 := Blk.cell hV4 9; have v10 := Blk.cell hV4 10; have v11 := Blk.cell hV4 11; have v12 := Blk.cell hV4 12; have v13 := Blk.cell hV4 13
  simp only [List.getElem?_toArray, List.getElem?_cons_zero, List.getElem?_cons_succ] at v0 v1 v2 v3 v4 v5 v6 v7 v8 v9 v10 v11 v12 v13
  simp only [putAt, Nat.reduceAdd] at htk hB4p hV4p hN4p hG4p hT4p
  clear HB HV HN HG HR
  have HTK := Lib.hid htk; have HB := Lib.hid hB4p; have HV := Lib.hid hV4p; have HN := Lib.hid hN4p; have HG := Lib.hid hG4p; have HT1 := Lib.hid hT4p
  clear htk hB4 hV4 hN4 hG4 hB4p hV4p hN4p hG4p hT4p hT hv hS4 hS4p hg4
  go_wp2_with fail
  refine HTK.out.mono ?_
  rintro e w5 ⟨kk5, aa5, n5, wd5, lg5, rfl, -, hS5, hg5⟩
  have hB5 := Blk.grown HB.out hg5 (fun e => by injection e with e; omega)
  have hV5 := Blk.grown HV.out hg5 (fun e => by injection e with e; omega)
  have hN5 := HN.out.grown hg5
  have hG5 := only_trans HG.out hg5
  have hz5 : w.heap.size + 1 < w5.heap.size := Blk.lt hV5
  have hrx := HRX.out false w5 x5 hS5 hN5.names
  rw [HY6.out] at hrx
  have hT5 : ∀ t ts, y4 = .ok (t, ts) -> TreeV true w5 (fun g => w.heap.size + 1 < g /\ g ≠ b) (.agg #[.int .i64 k1, .int .i64 lo1, .int .i64 hi1, .int .i64 wt1, .string nm1, .slice A1 n1 c1]) t := fun t ts e =>
   (HT1.out t ts e).keep (fun _ h => h) (fun g hg i x hx => hg5.cell hx (fun e => by injection e with e; exact hg.2 e))
  have HR := Lib.hid hrx
  clear v0 v1 v2 v3 v4 v5 v6 v7 v8 v9 v10 v11 v12 v13 fv HT1
  have HT1 := Lib.hid hT5
  clear HB HV HN HG
  have HB := Lib.hid hB5; have HV := Lib.hid hV5; have HN := Lib.hid hN5; have HG := Lib.hid hG5
  clear hB5 hV5 hN5 hG5 hg5 hS5 hrx HTK hT5
  go_wp2_with fail
  refine HR.out.mono ?_
  rintro e w6 ⟨v, rfl, hv, hT, hS6, hg6⟩
  obtain ⟨k2, lo2, hi2, wt2, nm2, A2, n2, cc2, rfl⟩ := hv.lit6
  have hB6 := Blk.grown HB.out hg6 (fun e => by injection e with e; omega)
  have hV6 := Blk.grown HV.out hg6 (fun e => by injection e with e; omega)
  have hN6 := HN.out.grown hg6
  have hG6 := only_trans HG.out hg6
  have hz6 : w.heap.size + 1 < w6.heap.size := Blk.lt hV6
  have hS6p := hS6.put (H := w.heap.size + 1) [.int .i64 k2, .int .i64 lo2, .int .i64 hi2, .int .i64 wt2, .string nm2, .slice A2 n2 cc2] 8 (by omega)
  have hB6p := Blk.put_far (H := w.heap.size + 1) [.int .i64 k2, .int .i64 lo2, .int .i64 hi2, .int .i64 wt2, .string nm2, .slice A2 n2 cc2] (by omega) 8 hB6
  have hV6p := Blk.put [.int .i64 k2, .int .i64 lo2, .int .i64 hi2, .int .i64 wt2, .string nm2, .slice A2 n2 cc2] 8 hV6
  have hG6p := only_put (H := w.heap.size + 1) [.int .i64 k2, .int .i64 lo2, .int .i64 hi2, .int .i64 wt2, .string nm2, .slice A2 n2 cc2] 8 hG6 (by omega)
  have hT6p : ∀ t ts, y6 = .ok (t, ts) -> TreeV true (putAt w6 (w.heap.size + 1) 8 [.int .i64 k2, .int .i64 lo2, .int .i64 hi2, .int .i64 wt2, .string nm2, .slice A2 n2 cc2]) (fun g => w.heap.size + 1 < g /\ g ≠ b) (.agg #[.int .i64 k2, .int .i64 lo2, .int .i64 hi2, .int .i64 wt2, .string nm2, .slice A2 n2 cc2]) t := fun t ts e =>
   TreeV.put _ 8 (hT t ts e) (fun g hg => ⟨by omega, by omega⟩) (fun g hg => by omega)
  have hT1p : ∀ t ts, y4 = .ok (t, ts) -> TreeV true (putAt w6 (w.heap.size + 1) 8 [.int .i64 k2, .int .i64 lo2, .int .i64 hi2, .int .i64 wt2, .string nm2, .slice A2 n2 cc2]) (fun g => w.heap.size + 1 < g /\ g ≠ b) (.agg #[.int .i64 k1, .int .i64 lo1, .int .i64 hi1, .int .i64 wt1, .string nm1, .slice A1 n1 c1]) t := fun t ts e =>
   TreeV.put _ 8 ((HT1.out t ts e).keep (S' := fun g => w.heap.size + 1 < g /\ g ≠ b) (fun _ h => h) (fun g hg i x hx => hg6.cell hx (fun e => by injection e with e; exact hg.2 e))) (fun _ h => h) (fun g hg => by omega)
  simp [setMany] at hV6p
  have htk := take_y hS6p 59 x7 HX7.out (by omega) (by omega) 59 rfl
  have fv := fun i => Blk.frozen hV6 i
  have v0 := Blk.cell hV6 0; have v1 := Blk.cell hV6 1; have v2 := Blk.cell hV6 2; have v3 := Blk.cell hV6 3; have v4 := Blk.cell hV6 4; have v5 := Blk.cell hV6 5; have v6 := Blk.cell hV6 6; have v7 := Blk.cell hV6 7; have v8 := Blk.cell hV6 8; have v9 := Blk.cell hV6 9; have v10 := Blk.cell hV6 10; have v11 := Blk.cell hV6 11; have v12 := Blk.cell hV6 12; have v13 := Blk.cell hV6 13
  simp only [List.getElem?_toArray, List.getElem?_cons_zero, List.getElem?_cons_succ] at v0 v1 v2 v3 v4 v5 v6 v7 v8 v9 v10 v11 v12 v13
  simp only [putAt, Nat.reduceAdd] at htk hB6p hV6p hG6p hT6p hT1p
  clear HB HV HN HG HR HT1
  have HTK := Lib.hid htk; have HB := Lib.hid hB6p; have HV := Lib.hid hV6p; have HG := Lib.hid hG6p; have HT2 := Lib.hid hT6p; have HT1 := Lib.hid hT1p
  clear htk hB6 hV6 hN6 hG6 hB6p hV6p hG6p hT6p hT1p hT hv hS6 hS6p hg6
  go_wp2_with fail
  refine HTK.out.mono ?_
  rintro e w7 ⟨kk7, aa7, n7, wd7, lg7, rfl, -, hS7, hg7⟩
  have hB7 := Blk.grown HB.out hg7 (fun e => by injection e with e; omega)
  have hV7 := Blk.grown HV.out hg7 (fun e => by injection e with e; omega)
  have hG7 := only_trans HG.out hg7
  have hk7 : ∀ t (v : Value), TreeV true _ (fun g => w.heap.size + 1 < g /\ g ≠ b) v t -> TreeV true w7 (fun g => w.heap.size + 1 < g /\ g ≠ b) v t := fun t v q => q.keep (fun _ h => h) (fun g hg i x hx => hg7.cell hx (fun e => by injection e with e; exact hg.2 e))
  clear v0 v1 v2 v3 v4 v5 v6 v7 v8 v9 v10 v11 v12 v13 fv
  have v0 := Blk.cell hV7 0; have v1 := Blk.cell hV7 1; have v2 := Blk.cell hV7 2; have v3 := Blk.cell hV7 3; have v4 := Blk.cell hV7 4; have v5 := Blk.cell hV7 5; have v6 := Blk.cell hV7 6; have v7 := Blk.cell hV7 7; have v8 := Blk.cell hV7 8; have v9 := Blk.cell hV7 9; have v10 := Blk.cell hV7 10; have v11 := Blk.cell hV7 11; have v12 := Blk.cell hV7 12; have v13 := Blk.cell hV7 13
  have r0 := Blk.cell hB7 0; have r1 := Blk.cell hB7 1; have r2 := Blk.cell hB7 2; have r3 := Blk.cell hB7 3; have r4 := Blk.cell hB7 4; have r5 := Blk.cell hB7 5; have r6 := Blk.cell hB7 6; have r7 := Blk.cell hB7 7; have r8 := Blk.cell hB7 8; have r9 := Blk.cell hB7 9; have r10 := Blk.cell hB7 10; have r11 := Blk.cell hB7 11; have r12 := Blk.cell hB7 12; have r13 := Blk.cell hB7 13
  simp only [List.getElem?_toArray, List.getElem?_cons_zero, List.getElem?_cons_succ] at v0 v1 v2 v3 v4 v5 v6 v7 v8 v9 v10 v11 v12 v13 r0 r1 r2 r3 r4 r5 r6 r7 r8 r9 r10 r11 r12 r13
  have fr := fun i => Blk.frozen hB7 i
  have hfin : ReadsU w b s Y df rl (.returned (.agg #[.int .i64 (K - 263), .int .i64 cost, .int .i64 k1, .int .i64 lo1, .int .i64 hi1, .int .i64 wt1, .string nm1, .slice A1 n1 c1, .int .i64 k2, .int .i64 lo2, .int .i64 hi2, .int .i64 wt2, .string nm2, .slice A2 n2 cc2])) (putAt w7 w.heap.size 0 [.int .i64 (K - 263), .int .i64 cost, .int .i64 k1, .int .i64 lo1, .int .i64 hi1, .int .i64 wt1, .string nm1, .slice A1 n1 c1, .int .i64 k2, .int .i64 lo2, .int .i64 hi2, .int .i64 wt2, .string nm2, .slice A2 n2 cc2]) := by
   refine ⟨K - 263, cost, k1, lo1, hi1, wt1, nm1, A1, n1, c1, k2, lo2, hi2, wt2, nm2, A2, n2, cc2, rfl, fun r t e => ?_, ?_, ?_⟩
   ·obtain ⟨t1, t4, t6, e1, e2, e3, e4, e5, e6⟩ := HC2.out r t e
    refine ⟨by rw [e3]; exact HCAT.out.symm, by rw [e4]; exact (HCO.out t1 e1 e2).2, ?_, ?_⟩
    ·exact TreeV.put _ 0 (hk7 _ _ (HT1.out _ _ e5)) (fun g hg => by omega) (fun g hg => by omega)
    ·exact TreeV.put _ 0 (hk7 _ _ (HT2.out _ _ e6)) (fun g hg => by omega) (fun g hg => by omega)
   ·rw [HC1.out]
    exact hS7.put _ 0 (by omega)
   ·exact only_put _ 0 hG7 (Nat.le_refl _)
  simp only [putAt, Nat.reduceAdd] at hfin
  have HFN := Lib.hid hfin
  clear hfin hS7 hg7 hk7 hG7 hB7 hV7
  go_wp2_with fail
  refine bodyPost_ret (v := .agg #[.int .i64 (K - 263), .int .i64 cost, .int .i64 k1, .int .i64 lo1, .int .i64 hi1, .int .i64 wt1, .string nm1, .slice A1 n1 c1, .int .i64 k2, .int .i64 lo2, .int .i64 hi2, .int .i64 wt2, .string nm2, .slice A2 n2 cc2]) (by simp [results, Tryz.results76, go_sem, r0, r1, r2, r3, r4, r5, r6, r7, r8, r9, r10, r11, r12, r13]) rfl ?_
  exact HFN.out
end Go.Proofs.YtalgnnidhnhciaaGreatDoor
