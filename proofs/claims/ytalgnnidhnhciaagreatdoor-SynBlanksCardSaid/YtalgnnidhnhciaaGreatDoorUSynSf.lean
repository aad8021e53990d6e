/- Contract of syn's reading of the rules. Contract of syn.Parse: what the plain mathematics says. -/
import Derived.Test.YtalgnnidhnhciaaGreatDoorShort
import Derived.Test.YtalgnnidhnhciaaGreatDoorUSynSd
import Derived.BigRegion
set_option linter.unusedVariables false
set_option linter.unusedSimpArgs false
set_option maxRecDepth 100000
set_option maxHeartbeats 8000000
namespace Go.Proofs.YtalgnnidhnhciaaGreatDoor
open Go Go.RowKit
attribute [local go_sem] field_sign2 field_sign3
structure LoopU (w : World) (b : Nat) (s : ByteArray) (df : Value) (D : List Bs) (y : Rd (List RuleT)) (rl : Value) (gk : Nat) (wr : World) : Prop where
 st : St wr b s y.st df rl 0
 gr : w.grownBy wr (some b)
 own : ∀ l ts, y = .ok (l, ts) -> RulesOwn wr w.heap.size rl l /\ l.length <= 20 /\ l.length + gk = 21
 nb : ∀ l ts, y = .ok (l, ts) -> NamesW w.heap.size wr b df D
def rulesE (F : Nat) (D : List Bs) (ts : Toks) : Rd (List RuleT) := (rulesR F D 21 [] ts).then_ fun rs t2 => if kd t2 == 256 then .ok (rs, t2) else .error (1, t2)
def ReadsUs (w : World) (b : Nat) (s : ByteArray) (Y : Rd (List RuleT)) (df : Value) (e : Ending) (w' : World) : Prop :=
 e = .returned (.tuple #[]) /\ ∃ rl, FinW b s Y.st df rl w' /\ (∀ l ts, Y = .ok (l, ts) -> RulesOwn w' w.heap.size rl l) /\ w.grownBy w' (some b)
theorem St.fin {w : World} {b : Nat} {s : ByteArray} {e : Nat} {ts : Toks} {df rl : Value} {dp : Int} (h : St w b s (.error (e, ts)) df rl dp) (he : e ≠ 1) : FinW b s (.error (e, ts)) df rl w := by
 obtain ⟨p, h1, h2, h3, h4, _⟩ := h.ex
 obtain ⟨g1, g2, g3⟩ := h2
 rcases g3 with g | ⟨g, _⟩
 ·exact ⟨p, h1, g, h3, h4⟩
 ·exact absurd g he
theorem rules_st (D : List Bs) {w : World} {b : Nat} {s : ByteArray} {x : X} {df : Value} (h : St w b s x df (.slice none 0 0) 0) (hN : ∀ ts, x = .ok ts -> NamesB w b df D) :
  Calls Tryz.prog 42 #[.pointer (some ⟨b, 0, none⟩)] w (ReadsUs w b s (x.into (rulesE (s.data.toList.length + 1) D)) df) := by
  have hblt := h.blt
  obtain ⟨F, hF⟩ : ∃ F, s.data.toList.length + 1 = F := ⟨_, rfl⟩
  have hrul : ∀ W ts rl, St W b s (.ok ts) df rl 0 -> 263 <= kd ts -> kd ts <= 265 -> NamesB W b df D -> Calls Tryz.prog 76 #[.pointer (some ⟨b, 0, none⟩)] W (ReadsU W b s (ruleR F D ts) df rl) := fun W ts rl hW hk hk2 hNW => by
   have := rule_st D hW hk hk2 hNW
   rw [hF] at this; exact this
  rw [hF]
  obtain ⟨TOT, hTOT⟩ : ∃ TOT, x.into (rulesE F D) = TOT := ⟨_, rfl⟩
  have hL0 : LoopU w b s df D (x.give []) (.slice none 0 0) 21 w := ⟨by rw [give_st]; exact h, only_refl _ _, fun l ts e => by
   cases x with
   | error z => cases e
   | ok z => cases e; exact ⟨⟨[], World.ownsRow_nil _ _ _ _, trivial⟩, Nat.zero_le _, rfl⟩, fun l ts e => by
   cases x with
   | error z => cases e
   | ok z => exact (hN z rfl).low⟩
  have hT0 : TOT = (x.give ([] : List RuleT)).then_ fun l ts => (rulesR F D 21 l ts).then_ fun rs t2 => if kd t2 == 256 then .ok (rs, t2) else .error (1, t2) := by rw [<- hTOT]; cases x <;> rfl
  rw [hTOT]
  have HL0 := Lib.hid hL0; have HT0 := Lib.hid hT0; have HDF := Lib.hid hrul
  clear hL0 hT0 hTOT hF hrul h hN
  go_enter Tryz.func42, Tryz.ntmps42
  go_wp2_with fail
  go_loopg [2] 21 (fun gk v2 wr => ∃ (y : Rd (List RuleT)) (rl : Value), Hid (LoopU w b s df D y rl gk wr) /\ Hid (TOT = y.then_ fun l ts => (rulesR F D gk l ts).then_ fun rs t2 => if kd t2 == 256 then .ok (rs, t2) else .error (1, t2)))
  case atStart => exact ⟨x.give [], .slice none 0 0, HL0, HT0⟩
  case round =>
   clear HL0 HT0
   obtain ⟨y, rl, HLo, HTo⟩ := hrel
   have c2 := HLo.out.st.kind
   have c10 := HLo.out.st.rules
   by_cases h263 : 263 <= kX y.st /\ kX y.st <= 265
   ·obtain ⟨l, ts, rfl⟩ : ∃ l ts, y = .ok (l, ts) := by
     cases y with
     | ok p => exact ⟨p.1, p.2, rfl⟩
     | error e => simp [Rd.st, kX] at h263
    have hk3 : 263 <= kd ts := by have := h263.1; simp only [Rd.st, kX] at this; omega
    have hk5 : kd ts <= 265 := by have := h263.2; simp only [Rd.st, kX] at this; omega
    obtain ⟨KK, hKK⟩ : ∃ KK, kX (Rd.st (.ok (l, ts) : Rd (List RuleT))) = KK := ⟨_, rfl⟩
    rw [hKK] at c2 h263
    obtain ⟨q3, q5⟩ := h263
    have e3 : decide (263 <= KK) = true := by simpa using q3
    have e5 : decide (KK <= 265) = true := by simpa using q5
    obtain ⟨hown, hl12, hl13⟩ := HLo.out.own l ts rfl
    have hnw := HLo.out.nb l ts rfl
    obtain ⟨cs, hrow, hrel⟩ := hown
    obtain ⟨A, c, rfl, hnc, hcm, hnil⟩ := own_form hrow
    unfold maxLen at hcm
    have hSt : St wr b s (.ok ts) df (.slice A l.length c) 0 := HLo.out.st
    obtain ⟨gk', rfl⟩ : ∃ gk', gk = gk' + 1 := ⟨gk - 1, by omega⟩
    by_cases h12 : l.length = 20
    ·have hf := fail_st hSt 2 (by omega)
     have htot : TOT = .error (2, ts) := by
      rw [HTo.out, then_ok, rulesR, if_pos (by simp [Nat.ble_eq]; omega), if_pos (by simp [h12])]; rfl
     have q12 : ((l.length : Int) == 20) = true := by simp; omega
     have HF := Lib.hid hf; have HTT := Lib.hid htot; have HGR := Lib.hid HLo.out.gr
     clear hf htot hSt hrow hrel hnw hKK hk3 hk5 HLo HTo HDF
     go_wp2_with fail
     refine HF.out.mono ?_
     rintro e w1 ⟨rfl, hS1, hg1⟩
     have HS1 := Lib.hid hS1; have HG1 := Lib.hid hg1; clear hS1 hg1
     go_wp2_with fail
     go_end0
     rw [HTT.out]
     exact ⟨rfl, _, HS1.out.fin (by omega), fun l ts e => by (cases e), only_trans HGR.out HG1.out⟩
    ·have q12 : ((l.length : Int) == 20) = false := by simp; omega
     have hca := HDF.out wr.drew ts _ hSt.drew hk3 hk5 (show NamesB wr.drew b df D from hnw.names)
     have htot : TOT = ((ruleR F D ts).then_ fun d t1 => (.ok (l ++ [d], t1) : Rd (List RuleT))).then_ fun l ts => (rulesR F D gk' l ts).then_ fun rs t2 => if kd t2 == 256 then .ok (rs, t2) else .error (1, t2) := by
      rw [HTo.out, then_ok, rulesR, if_pos (by simp [Nat.ble_eq]; omega), if_neg (by simp [h12])]
      cases ruleR F D ts <;> rfl
     have hne : (Value.slice A l.length c).ownBlock = none \/ (Value.slice A l.length c).ownBlock ≠ some b := by
      cases hv : (Value.slice A l.length c).ownBlock with
      | none => exact .inl rfl
      | some g => exact .inr (fun e => by injection e with e; have := (own_below hrow g hv).1; omega)
     have HCA := Lib.hid hca; have HTT := Lib.hid htot; have HGR := Lib.hid HLo.out.gr; have HOW := Lib.hid hrow; have HRR := Lib.hid hrel; have HNE := Lib.hid hne; have HNW := Lib.hid hnw
     clear hca htot hSt hrow hrel hnw hKK hk3 hk5 HLo HTo HDF hne
     go_wp2_with fail
     refine region_x 13 (fun w' : World => w'.cell? ⟨b, 10, none⟩ = some (.slice A l.length c)) (by kernel_rfl) ?_
     have hS : wr.drew.cell? ⟨b, 10, none⟩ = some (.slice A l.length c) := c10
     refine anyX_takeG [10, 11, 12] (i := 0) (v := ?_) rfl (by kernel_rfl) (by kernel_rfl) (by kernel_rfl) (by kernel_rfl) (by kernel_rfl) (fun _ _ _ h => h) (Or.inl ⟨by rfl, ?_⟩) hS ?_
     rotate_left
     ·intro w' s0
      go_simp
      try with_reducible rfl
     try simp only [Act.put, zq1, zq2, zq3, zq4, zq5, zq6]
     refine anyX_takeG [10, 11, 12] (i := 1) (v := ?_) rfl (by kernel_rfl) (by kernel_rfl) (by kernel_rfl) (by kernel_rfl) (by kernel_rfl) (fun _ _ _ h => h) (Or.inl ⟨by rfl, ?_⟩) hS ?_
     rotate_left
     ·intro w' s0
      go_simp
      try with_reducible rfl
     try simp only [Act.put, zq1, zq2, zq3, zq4, zq5, zq6]
     refine anyX_takeG [10, 11, 12] (i := 2) (v := ?_) rfl (by kernel_rfl) (by kernel_rfl) (by kernel_rfl) (by kernel_rfl) (by kernel_rfl) (fun _ _ _ h => h) (Or.inl ⟨by rfl, ?_⟩) hS ?_
     rotate_left
     ·intro w' s0
      go_simp
      try with_reducible rfl
     try simp only [Act.put, zq1, zq2, zq3, zq4, zq5, zq6]
     refine anyX_takeG [10, 11, 12] (i := 3) (v := ?_) rfl (by kernel_rfl) (by kernel_rfl) (by kernel_rfl) (by kernel_rfl) (by kernel_rfl) (fun _ _ _ h => h) (Or.inl ⟨by rfl, ?_⟩) hS ?_
     rotate_left
     ·intro w' s0
      go_simp
      try with_reducible rfl
     try simp only [Act.put, zq1, zq2, zq3, zq4, zq5, zq6]
     refine anyX_takeG [10, 11, 12] (i := 4) (v := ?_) rfl (by kernel_rfl) (by kernel_rfl) (by kernel_rfl) (by kernel_rfl) (by kernel_rfl) (fun _ _ _ h => h) (Or.inl ⟨by rfl, ?_⟩) hS ?_
     rotate_left
     ·intro w' s0
      go_simp
      try with_reducible rfl
     try simp only [Act.put, zq1, zq2, zq3, zq4, zq5, zq6]
     refine anyX_takeG [10, 11, 12] (i := 5) (v := ?_) rfl (by kernel_rfl) (by kernel_rfl) (by kernel_rfl) (by kernel_rfl) (by kernel_rfl) (fun _ _ _ h => h) (Or.inl ⟨by rfl, ?_⟩) hS ?_
     rotate_left
     ·intro w' s0
      go_simp
      try with_reducible rfl
     try simp only [Act.put, zq1, zq2, zq3, zq4, zq5, zq6]
     refine anyX_takeG [10, 11, 12] (i := 6) (v := ?_) rfl (by kernel_rfl) (by kernel_rfl) (by kernel_rfl) (by kernel_rfl) (by kernel_rfl) (fun _ _ _ h => h) (Or.inl ⟨by rfl, ?_⟩) hS ?_
     rotate_left
     ·intro w' s0
      go_simp
      try with_reducible rfl
     try simp only [Act.put, zq1, zq2, zq3, zq4, zq5, zq6]
     refine anyX_g (i := 7) (by kernel_rfl) (by decide) rfl (by rfl) ?_
     intro K hK
     try simp only [zq1, zq2, zq3]
     refine wp_enterE #[.pointer (some ⟨b, 0, none⟩)] Tryz.func76 (by kernel_rfl) (by kernel_rfl) ?_ HCA.out ?_
     ·go_simp
     rintro e w3 ⟨cat, cost, k1, lo1, hi1, wt1, nm1, A1, n1, c1, k2, lo2, hi2, wt2, nm2, A2, n2, c2', rfl, hT, hS3, hg3⟩
     refine ⟨_, rfl, ?_⟩
     have hg3' : wr.grownBy w3 (some b) := only_trans (only_drew (only_refl wr (some b))) hg3
     have c10' : w3.cell? ⟨b, 10, none⟩ = some (.slice A l.length c) := hS3.rules
     refine hK _ _ c10' ?_
     clear hK hS
     try simp only [Act.put, zq1, zq2, zq3, zq4, zq5, zq6]
     refine anyX_g (i := 8) (by kernel_rfl) (by decide) rfl (by rfl) ?_
     intro K hK
     try simp only [zq1, zq2, zq3]
     go_simp
     have c10a : (w3.alloc (.cells #[.int .i64 cat, .int .i64 cost, .int .i64 k1, .int .i64 lo1, .int .i64 hi1, .int .i64 wt1, .string nm1, .slice A1 n1 c1, .int .i64 k2, .int .i64 lo2, .int .i64 hi2, .int .i64 wt2, .string nm2, .slice A2 n2 c2'] 56)).cell? ⟨b, 10, none⟩ = some (.slice A l.length c) := (hS3.alloc _).rules
     refine hK _ _ c10a ?_
     clear hK
     try simp only [Act.put, zq1, zq2, zq3, zq4, zq5, zq6]
     refine anyX_g (i := 9) (by kernel_rfl) (by decide) rfl (by rfl) ?_
     intro K hK
     try simp only [zq1, zq2, zq3]
     refine wp_pushK rfl (.tmp 34) (.tmp 37) 26 56 rfl 14 160 _ Tryz.underlying26 info_rule rfl (by omega) (by omega) w.heap.size (.slice A l.length c) l.length (cs.flatMap RCell.enc) (by rfl) ((World.ownsRow.kept HOW.out hg3' HNE.out).alloc _) w3.heap.size (by rfl) #[.int .i64 cat, .int .i64 cost, .int .i64 k1, .int .i64 lo1, .int .i64 hi1, .int .i64 wt1, .string nm1, .slice A1 n1 c1, .int .i64 k2, .int .i64 lo2, .int .i64 hi2, .int .i64 wt2, .string nm2, .slice A2 n2 c2'] rfl (Blk.new w3 _ _) (by simp [Value.oneCell']) (by omega) (by have := hg3'.size; have := HGR.out.size; simp; omega) ?_
     intro g cap w5 hown5 hgr5 hat5
     have hS5 := (hS3.alloc (.cells #[.int .i64 cat, .int .i64 cost, .int .i64 k1, .int .i64 lo1, .int .i64 hi1, .int .i64 wt1, .string nm1, .slice A1 n1 c1, .int .i64 k2, .int .i64 lo2, .int .i64 hi2, .int .i64 wt2, .string nm2, .slice A2 n2 c2'] 56)).row hgr5 (fun j e => by have := (own_below HOW.out j e).1; omega)
     have c10b : w5.cell? ⟨b, 10, none⟩ = some (.slice A l.length c) := hS5.rules
     refine hK _ _ c10b ?_
     clear hK
     try simp only [Act.put, zq1, zq2, zq3, zq4, zq5, zq6]
     refine anyX_g (i := 10) (by kernel_rfl) (by decide) rfl (by rfl) ?_
     intro K hK
     try simp only [zq1, zq2, zq3]
     go_simp
     refine hK _ _ c10b ?_
     clear hK
     try simp only [Act.put, zq1, zq2, zq3, zq4, zq5, zq6]
     refine anyX_g (i := 11) (by kernel_rfl) (by decide) rfl (by rfl) ?_
     intro K hK
     try simp only [zq1, zq2, zq3]
     go_simp
     refine hK _ _ c10b ?_
     clear hK
     try simp only [Act.put, zq1, zq2, zq3, zq4, zq5, zq6]
     refine anyX_g (i := 12) (by kernel_rfl) (by decide) rfl (by rfl) ?_
     intro K hK
     try simp only [zq1, zq2, zq3]
     go_simp
     refine hK _ _ c10b ?_
     clear hK
     try simp only [Act.put, zq1, zq2, zq3, zq4, zq5, zq6]
     refine anyX_last (by kernel_rfl) (by kernel_rfl) rfl rfl ?_
     try simp only [zq1, zq2, zq3]
     have f10 := hS5.fz 10
     have hSN := hS5.setRules (.slice (some ⟨g, 0, none⟩) (l.length + 1) cap)
     have hGN := only_setCell (p := ⟨b, 10, none⟩) (only_own (only_alloc (only_trans HGR.out hg3') (.cells #[.int .i64 cat, .int .i64 cost, .int .i64 k1, .int .i64 lo1, .int .i64 hi1, .int .i64 wt1, .string nm1, .slice A1 n1 c1, .int .i64 k2, .int .i64 lo2, .int .i64 hi2, .int .i64 wt2, .string nm2, .slice A2 n2 c2'] 56)) hgr5 (fun j e => (own_below HOW.out j e).1)) (.inl rfl) (.slice (some ⟨g, 0, none⟩) (l.length + 1) cap)
     have hnx : ∀ l' ts', ((ruleR F D ts).then_ fun d t1 => (.ok (l ++ [d], t1) : Rd (List RuleT))) = .ok (l', ts') -> RulesOwn (w5.setCell ⟨b, 10, none⟩ (.slice (some ⟨g, 0, none⟩) (l.length + 1) cap)) w.heap.size (.slice (some ⟨g, 0, none⟩) (l.length + 1) cap) l' /\ l'.length <= 20 /\ l'.length + gk' = 21 := fun l' ts' e => by
      obtain ⟨d, hd, rfl⟩ : ∃ d, ruleR F D ts = .ok (d, ts') /\ l' = l ++ [d] := by
       cases hq : ruleR F D ts with
       | error z => rw [hq] at e; cases e
       | ok p => obtain ⟨d, t1⟩ := p; rw [hq, then_ok] at e; cases e; exact ⟨d, rfl, rfl⟩
      have hp := RulesOwn.push (x := ⟨cat, cost, k1, lo1, hi1, wt1, nm1, A1, n1, c1, k2, lo2, hi2, wt2, nm2, A2, n2, c2'⟩) (d := d) HRR.out hblt (fun j e => (own_below HOW.out j e).2) HGR.out.size hg3' (.cells #[.int .i64 cat, .int .i64 cost, .int .i64 k1, .int .i64 lo1, .int .i64 hi1, .int .i64 wt1, .string nm1, .slice A1 n1 c1, .int .i64 k2, .int .i64 lo2, .int .i64 hi2, .int .i64 wt2, .string nm2, .slice A2 n2 c2'] 56) hgr5 hat5 hown5 (hT d ts' hd)
      exact ⟨hp.kept hblt (only_setCell (p := ⟨b, 10, none⟩) (only_refl w5 (some b)) (.inl rfl) _), by simp; omega, by simp; omega⟩
     have hnm5 : ∀ l' ts', ((ruleR F D ts).then_ fun d t1 => (.ok (l ++ [d], t1) : Rd (List RuleT))) = .ok (l', ts') -> NamesW w.heap.size (w5.setCell ⟨b, 10, none⟩ (.slice (some ⟨g, 0, none⟩) (l.length + 1) cap)) b df D := fun _ _ _ => ((HNW.out.grown hg3').alloc (.cells #[.int .i64 cat, .int .i64 cost, .int .i64 k1, .int .i64 lo1, .int .i64 hi1, .int .i64 wt1, .string nm1, .slice A1 n1 c1, .int .i64 k2, .int .i64 lo2, .int .i64 hi2, .int .i64 wt2, .string nm2, .slice A2 n2 c2'] 56)).keep (fun k hkb hkB i y hy => by
      rw [World.cell?_setCell_other _ _ _ _ (fun e => hkb (by injection e with e1; exact e1.symm))]
      exact hgr5.cell hy (fun e => by have := (own_below HOW.out k e.symm).1; omega))
     have HLN := Lib.hid (show LoopU w b s df D ((ruleR F D ts).then_ fun d t1 => (.ok (l ++ [d], t1) : Rd (List RuleT))) (.slice (some ⟨g, 0, none⟩) (l.length + 1) cap) gk' _ from ⟨by
      have e : ((ruleR F D ts).then_ fun d t1 => (.ok (l ++ [d], t1) : Rd (List RuleT))).st = (ruleR F D ts).st := by cases ruleR F D ts <;> rfl
      rw [e]; exact hSN, hGN, hnx, hnm5⟩)
     clear hnm5
     clear hSN hGN hS5 hS3 hT hgr5 hown5 hat5 hg3 hg3' c10' c10a
     go_simp
     try apply_assumption
     go_roundg gk'
     case measure => omega
     case rel => exact ⟨_, _, HLN, HTT⟩
   ·have htot : TOT = y.then_ fun rs t2 => if kd t2 == 256 then .ok (rs, t2) else .error (1, t2) := by
     rw [HTo.out]
     cases y with
     | error e => rfl
     | ok p =>
       obtain ⟨l, ts⟩ := p
       have hk : ¬ (263 <= kd ts /\ kd ts <= 265) := fun e => h263 ⟨by simp only [Rd.st, kX]; omega, by simp only [Rd.st, kX]; omega⟩
       rw [then_ok, then_ok]
       cases gk with
       | zero => rfl
       | succ g =>
         rw [rulesR, if_neg (by simp [Nat.ble_eq]; omega)]; rfl
    have hte : TOT.st = endX y.st := by
     rw [htot]
     cases y with
     | error e => rfl
     | ok p =>
       obtain ⟨l, ts⟩ := p
       rw [then_ok]
       by_cases hq : kd ts = 256
       ·simp [endX, Rd.st, X.on, hq]
       ·simp [endX, Rd.st, X.on, hq]
    have hto : ∀ l ts, TOT = .ok (l, ts) -> ∃ t, y = .ok (l, t) := fun l ts e => by
     rw [htot] at e
     cases y with
     | error z => cases e
     | ok p =>
       obtain ⟨l', t'⟩ := p
       rw [then_ok] at e
       split at e
       ·cases e; exact ⟨_, rfl⟩
       ·cases e
    have hen := take_end HLo.out.st
    obtain ⟨KK, hKK⟩ : ∃ KK, kX y.st = KK := ⟨_, rfl⟩
    rw [hKK] at c2 h263
    have HEN := Lib.hid hen; have HTE := Lib.hid hte; have HTO := Lib.hid hto
    clear htot hen hte hto HTo HDF c10 hKK
    have fin : ∀ w1, FinW b s (endX y.st) df rl w1 -> wr.grownBy w1 (some b) -> ReadsUs w b s TOT df (.returned (.tuple #[])) w1 := fun w1 hF hg => ⟨rfl, rl, by rw [HTE.out]; exact hF, fun l ts e => by
     obtain ⟨t, hy⟩ := HTO.out l ts e
     exact (HLo.out.own l t hy).1.kept hblt hg, only_trans HLo.out.gr hg⟩
    have FIN := Lib.hid fin; clear fin
    by_cases h3 : 263 <= KK
    ·have h5 : 265 < KK := by omega
     have e3 : decide (263 <= KK) = true := by simpa using h3
     have e5 : decide (KK <= 265) = false := by simpa using h5
     clear h263
     go_wp2_with fail
     refine HEN.out.mono ?_
     rintro e w1 ⟨kk, aa, n1, wd, lg, rfl, hF, hg⟩
     have HF := Lib.hid hF; have HG := Lib.hid hg; clear hF hg
     go_wp2_with fail
     go_end0
     exact FIN.out _ HF.out HG.out
    ·have h3' : KK < 263 := by omega
     have e3 : decide (263 <= KK) = false := by simpa using h3'
     clear h263 h3
     go_wp2_with fail
     refine HEN.out.mono ?_
     rintro e w1 ⟨kk, aa, n1, wd, lg, rfl, hF, hg⟩
     have HF := Lib.hid hF; have HG := Lib.hid hg; clear hF hg
     go_wp2_with fail
     go_end0
     exact FIN.out _ HF.out HG.out
end Go.Proofs.YtalgnnidhnhciaaGreatDoor
namespace Go.Proofs.YtalgnnidhnhciaaGreatDoor
open Go Go.RowKit
theorem DefsOwn.more {w : World} {B B' : Nat} {v : Value} {l : List (Bs × Tree)} (h : DefsOwn w B v l) (hB : B' <= B) : DefsOwn w B' v l := by
 obtain ⟨cs, h1, h2⟩ := h
 refine ⟨cs, ⟨h1.1, ?_⟩, h2.mono fun x d q => q.keep (fun g hg _ => ⟨by omega, hg.2⟩) (fun _ _ _ _ h => h)⟩
 rcases h1.2 with h | ⟨g, cap, cur, rfl, hg, r⟩
 ·exact .inl h
 ·exact .inr ⟨g, cap, cur, rfl, by omega, r⟩
theorem RulesOwn.more {w : World} {B B' : Nat} {v : Value} {l : List RuleT} (h : RulesOwn w B v l) (hB : B' <= B) : RulesOwn w B' v l := by
 obtain ⟨cs, h1, h2⟩ := h
 refine ⟨cs, ⟨h1.1, ?_⟩, h2.mono fun x d q => q.keep (fun g hg _ => ⟨by omega, hg.2⟩) (fun _ _ _ _ h => h)⟩
 rcases h1.2 with h | ⟨g, cap, cur, rfl, hg, r⟩
 ·exact .inl h
 ·exact .inr ⟨g, cap, cur, rfl, by omega, r⟩
theorem DefsOwn.nil (w : World) (B : Nat) : DefsOwn w B (.slice none 0 0) [] := ⟨[], World.ownsRow_nil _ _ _ _, trivial⟩
theorem RulesOwn.nil (w : World) (B : Nat) : RulesOwn w B (.slice none 0 0) [] := ⟨[], World.ownsRow_nil _ _ _ _, trivial⟩
theorem DefsOwn.far {w : World} {B : Nat} {v : Value} {l : List (Bs × Tree)} (h : DefsOwn w B v l) {q : Addr} (hq : q.block < B) (u : Value) : DefsOwn (w.setCell q u) B v l :=
 h.kept hq (only_setCell (only_refl w (some q.block)) (.inl rfl) u)
theorem RulesOwn.far {w : World} {B : Nat} {v : Value} {l : List RuleT} (h : RulesOwn w B v l) {q : Addr} (hq : q.block < B) (u : Value) : RulesOwn (w.setCell q u) B v l :=
 h.kept hq (only_setCell (only_refl w (some q.block)) (.inl rfl) u)
def ParseR (w : World) (s : ByteArray) (e : Ending) (w' : World) : Prop :=
 ∃ (ds rs : Value) (P : (List (Bs × Tree) × List RuleT) × Nat × Nat), e = .returned (.tuple #[.agg #[ds, rs], .int .i64 P.2.1, .int .i64 P.2.2]) /\ parseT s.data.toList = P /\ DefsOwn w' w.heap.size ds P.1.1 /\ RulesOwn w' w.heap.size rs P.1.2 /\ Below w.heap.size w w'
theorem file_chain (F : Nat) (ts : Toks) : fileR F ts = ((chk ts).into (defsR F 13 [])).then_ fun ds t1 => (rulesE F (ds.map Prod.fst) t1).then_ fun rs t2 => .ok ((ds, rs), t2) := by
 unfold fileR
 cases chk ts with
 | error e => rfl
 | ok t0 =>
   rw [into_ok, into_ok]
   cases defsR F 13 [] t0 with
   | error e => rfl
   | ok p =>
     obtain ⟨ds, t1⟩ := p
     rw [then_ok, then_ok]
     unfold rulesE
     cases rulesR F (ds.map Prod.fst) 21 [] t1 with
     | error e => rfl
     | ok p =>
       obtain ⟨rs, t2⟩ := p
       rw [then_ok, then_ok]
       split <;> rfl
def outY (t : Bs) : Rd (List (Bs × Tree)) -> Rd (List RuleT) -> (List (Bs × Tree) × List RuleT) × Nat × Nat
 | .ok (ds, _), .ok (rs, _) => ((ds, rs), 0, 0)
 | .error _, .ok _ => (([], []), 0, 0)
 | _, .error (e, ts) => (([], []), posT t ts.length, e)
def nmsOf : Rd (List (Bs × Tree)) -> List Bs
 | .ok (l, _) => l.map Prod.fst
 | .error _ => []
theorem parse_chain (t : Bs) (h : Nat.blt 4000 t.length = false) (F : Nat) (hF : t.length + 1 = F) (X0 : X) (hX : chk ((lexT t).map Prod.fst) = X0) (Y1 : Rd (List (Bs × Tree))) (h1 : X0.into (defsR F 13 []) = Y1) (Y2 : Rd (List RuleT)) (h2 : Y1.st.into (rulesE F (nmsOf Y1)) = Y2) : parseT t = outY t Y1 Y2 := by
 unfold parseT
 rw [h, if_neg (by simp), hF, file_chain, hX, h1]
 subst h2
 cases Y1 with
 | error e => obtain ⟨e, ts⟩ := e; rfl
 | ok p =>
   obtain ⟨l, t1⟩ := p
   rw [then_ok]
   show _ = outY t (.ok (l, t1)) (rulesE F (l.map Prod.fst) t1)
   cases rulesE F (l.map Prod.fst) t1 with
   | error e => obtain ⟨e, ts⟩ := e; rfl
   | ok p => obtain ⟨rs, t2⟩ := p; rfl
theorem parse_any (w : World) (s : ByteArray) (hE : ErrV w) : Calls Tryz.prog 21 #[.string s] w (ParseR w s) := by
 have hlE := hE.lt
 have hsl : s.data.toList.length = s.size := rfl
 by_cases hbig : 4000 < s.size
 ·have hp : parseT s.data.toList = (([], []), 0, 2) := by
   unfold parseT
   rw [if_pos (by rw [hsl]; exact Nat.ble_eq_true_of_le hbig)]
  have q : decide ((s.size : Int) > 4000) = true := by simp; omega
  have q' : (4000 : Int) < (s.size : Int) := by omega
  have HP := Lib.hid hp
  clear hp hE hbig hsl
  go_enter Tryz.func21, Tryz.ntmps21
  go_wp2_with fail
  refine bodyPost_ret (v := .tuple #[.agg #[.slice none 0 0, .slice none 0 0], .int .i64 0, .int .i64 2]) (by simp [results, Tryz.results21, go_sem]) rfl ?_
  refine ⟨.slice none 0 0, .slice none 0 0, (([], []), 0, 2), rfl, HP.out, DefsOwn.nil _ _, RulesOwn.nil _ _, ?_⟩
  exact (Below.refl w.heap.size w).alloc (Nat.le_refl _) _
 ·have q : decide ((s.size : Int) > 4000) = false := by simp; omega
  have q' : (s.size : Int) <= 4000 := by omega
  have hs4 : s.size <= 4000 := by omega
  have hblt : Nat.blt 4000 s.data.toList.length = false := by rw [hsl]; exact blt_no hs4
  have hz1 : (w.alloc (.cells #[.slice none 0 0, .slice none 0 0] 28)).heap.size = w.heap.size + 1 := by simp
  have hC := Blk.new (w.alloc (.cells #[.slice none 0 0, .slice none 0 0] 28)) 97 #[.string s, .int .i64 0, .int .i64 0, .int .i64 0, .string ⟨#[]⟩, .int .i64 0, .bool false, .int .i64 0, .int .i64 0, .slice none 0 0, .slice none 0 0, .int .i64 0]
  rw [hz1] at hC
  have hE1 := (hE.alloc (.cells #[.slice none 0 0, .slice none 0 0] 28)).alloc (.cells #[.string s, .int .i64 0, .int .i64 0, .int .i64 0, .string ⟨#[]⟩, .int .i64 0, .bool false, .int .i64 0, .int .i64 0, .slice none 0 0, .slice none 0 0, .int .i64 0] 97)
  have hB := Blk.alloc (Blk.new w 28 #[.slice none 0 0, .slice none 0 0]) (.cells #[.string s, .int .i64 0, .int .i64 0, .int .i64 0, .string ⟨#[]⟩, .int .i64 0, .bool false, .int .i64 0, .int .i64 0, .slice none 0 0, .slice none 0 0, .int .i64 0] 97)
  have hG := only_alloc (only_alloc (only_refl w (some (w.heap.size + 1))) (.cells #[.slice none 0 0, .slice none 0 0] 28)) (.cells #[.string s, .int .i64 0, .int .i64 0, .int .i64 0, .string ⟨#[]⟩, .int .i64 0, .bool false, .int .i64 0, .int .i64 0, .slice none 0 0, .slice none 0 0, .int .i64 0] 97)
  have hst := step_any _ (w.heap.size + 1) s ⟨0, 0, 0, ⟨#[]⟩, 0, false, 0, 0, .slice none 0 0, .slice none 0 0, 0⟩ 0 hC rfl rfl (Nat.zero_le _) hs4 hE1 (by omega)
  obtain ⟨F, hF⟩ : ∃ F, s.data.toList.length + 1 = F := ⟨_, rfl⟩
  obtain ⟨X0, hX0⟩ : ∃ X0, chk ((lexT s.data.toList).map Prod.fst) = X0 := ⟨_, rfl⟩
  obtain ⟨Y1, hY1⟩ : ∃ Y1, X0.into (defsR F 13 []) = Y1 := ⟨_, rfl⟩
  obtain ⟨D, hD⟩ : ∃ D : List Bs, D = nmsOf Y1 := ⟨_, rfl⟩
  obtain ⟨Y2, hY2⟩ : ∃ Y2, Y1.st.into (rulesE F D) = Y2 := ⟨_, rfl⟩
  have hfin : parseT s.data.toList = outY s.data.toList Y1 Y2 := parse_chain _ hblt F hF X0 hX0 Y1 hY1 Y2 (by rw [<- hD]; exact hY2)
  have hxe : ∀ er, Y1 = .error er -> Y2 = .error er := fun er e => by rw [<- hY2, e]; rfl
  have hdefs : ∀ W, St W (w.heap.size + 1) s X0 (.slice none 0 0) (.slice none 0 0) 0 -> Calls Tryz.prog 41 #[.pointer (some ⟨w.heap.size + 1, 0, none⟩)] W (ReadsDs W (w.heap.size + 1) s Y1 (.slice none 0 0)) := fun W hW => by
   have := defs_st hW
   rw [hF, hY1] at this; exact this
  have hrules : ∀ W df, St W (w.heap.size + 1) s Y1.st df (.slice none 0 0) 0 -> (∀ ts, Y1.st = .ok ts -> NamesB W (w.heap.size + 1) df D) -> Calls Tryz.prog 42 #[.pointer (some ⟨w.heap.size + 1, 0, none⟩)] W (ReadsUs W (w.heap.size + 1) s Y2 df) := fun W df hW hNW => by
   have := rules_st D hW hNW
   rw [hF, hY2] at this; exact this
  have hrel : ∀ p', StepTo s ⟨0, 0, 0, ⟨#[]⟩, 0, false, 0, 0, .slice none 0 0, .slice none 0 0, 0⟩ 0 p' -> RelX s p' X0 := fun p' h => by
   have := step_rel s _ p' 0 [] (by simp) h rfl
   rw [List.drop_zero, hX0] at this; exact this
  have HST := Lib.hid hst; have HE := Lib.hid hE1; have HB := Lib.hid hB; have HG := Lib.hid hG; have HFN := Lib.hid hfin; have HXE := Lib.hid hxe; have HDS := Lib.hid hdefs; have HRS := Lib.hid hrules; have HRL := Lib.hid hrel; have HD := Lib.hid hD; have HZ := Lib.hid hz1
  clear hst hE1 hB hG hfin hxe hdefs hrules hrel hY2 hY1 hX0 hF hD hC hz1 hE hblt hsl hbig
  go_enter Tryz.func21, Tryz.ntmps21
  go_wp2_with fail
  refine HST.out.mono ?_
  rintro e w1 ⟨p', rfl, hto, hL, hg1⟩
  have hs1 : St w1 (w.heap.size + 1) s X0 (.slice none 0 0) (.slice none 0 0) 0 := ⟨⟨p', hL, HRL.out p' hto, by obtain ⟨r, g, _, _, _, h4, h5, h6, _⟩ := hto; exact h4, by obtain ⟨r, g, _, _, _, h4, h5, h6, _⟩ := hto; exact h5, by obtain ⟨r, g, _, _, _, h4, h5, h6, _⟩ := hto; exact h6⟩, HE.out.grown hg1 (by omega), by omega, hs4⟩
  have hds := HDS.out w1 hs1
  have hB1 := Blk.grown HB.out hg1 (fun e => by injection e with e; omega)
  have hG1 := only_trans HG.out hg1
  have hb1 := hs1.blt
  have HD1 := Lib.hid hds; have HB1 := Lib.hid hB1; have HG1 := Lib.hid hG1
  clear hds hB1 hG1 hs1 hto hL hg1 HST HE HB HG HDS HRL
  go_wp2_with fail
  refine HD1.out.mono ?_
  rintro e w2 ⟨rfl, df, hs2, hown2, hg2⟩
  have hrs := HRS.out w2 df hs2 (fun ts e => by
   rw [HD.out]
   cases Y1 with
   | error z => cases e
   | ok p => exact (hown2 p.1 p.2 rfl).1.names hb1 (hown2 p.1 p.2 rfl).2)
  have hB2 := Blk.grown HB1.out hg2 (fun e => by injection e with e; omega)
  have hG2 := only_trans HG1.out hg2
  have hz2 := hg2.size
  have HR2 := Lib.hid hrs; have HB2 := Lib.hid hB2; have HG2 := Lib.hid hG2; have HO2 := Lib.hid hown2
  clear hrs hB2 hG2 hs2 hown2 hg2 HD1 HB1 HG1 HRS HD
  go_wp2_with fail
  refine HR2.out.mono ?_
  rintro e w3 ⟨rfl, rl, ⟨p, hC3, hfn, rfl, rfl⟩, hown3, hg3⟩
  have hB3 := Blk.grown HB2.out hg3 (fun e => by injection e with e; omega)
  have hG3 := only_trans HG2.out hg3
  have c7 := hC3.c7; have c8 := hC3.c8; have c9 := hC3.c9; have c10 := hC3.c10
  have fr := fun i => Blk.frozen hB3 i
  have r0 := Blk.cell hB3 0; have r1 := Blk.cell hB3 1
  simp only [List.getElem?_toArray, List.getElem?_cons_zero, List.getElem?_cons_succ] at r0 r1
  have hbel : Below w.heap.size w w3 := below_of_only hG3 (by omega) (Nat.le_refl _)
  cases Y2 with
  | error er =>
    obtain ⟨en, ts⟩ := er
    obtain ⟨g1, g2, g3⟩ := hfn
    have hpt : parseT s.data.toList = (([], []), posT s.data.toList ts.length, en) := by
     rw [HFN.out]
     cases Y1 with
     | error z => cases z; rfl
     | ok z => cases z; rfl
    have qe : (p.e != 0) = true := by rw [g1]; simp; omega
    have HP := Lib.hid hpt; have G1 := Lib.hid g1; have G3 := Lib.hid g3; have HBL := Lib.hid hbel
    clear hpt g1 g2 g3 hbel hC3 hown3 hg3 hG3 hB3 c9 c10 HR2 HB2 HG2 HO2 HXE HFN
    go_wp2_with fail
    go_region
    all_goals (
     try apply_assumption
     go_wp2_with fail)
    refine bodyPost_ret (v := .tuple #[.agg #[.slice none 0 0, .slice none 0 0], .int .i64 p.place, .int .i64 p.e]) (by simp [results, Tryz.results21, go_sem, r0, r1]) rfl ?_
    refine ⟨.slice none 0 0, .slice none 0 0, _, ?_, HP.out, DefsOwn.nil _ _, RulesOwn.nil _ _, ?_⟩
    ·rw [G1.out, G3.out]
    ·exact ((HBL.out.setCell (p := ⟨w.heap.size, 0, none⟩) (Nat.le_refl _) _).setCell (p := ⟨w.heap.size, 1, none⟩) (Nat.le_refl _) _).drew
  | ok q2 =>
    obtain ⟨rs, t2⟩ := q2
    obtain ⟨ds, t1, hy1⟩ : ∃ ds t1, Y1 = .ok (ds, t1) := by
     cases Y1 with
     | error z => have := HXE.out z rfl; cases this
     | ok z => exact ⟨z.1, z.2, rfl⟩
    subst hy1
    have hpe : p.e = 0 := hfn
    have hpt : parseT s.data.toList = ((ds, rs), 0, 0) := HFN.out
    have hD3 := (HO2.out ds t1 rfl).1.kept hb1 hg3
    have hR3 := hown3 rs t2 rfl
    obtain ⟨csd, hrowd, -⟩ := id hD3
    obtain ⟨csr, hrowr, -⟩ := id hR3
    obtain ⟨dA, dc, hdv, -⟩ := own_form hrowd
    obtain ⟨rA, rc, hrv, -⟩ := own_form hrowr
    rw [hdv] at c9 hD3
    rw [hrv] at c10 hR3
    rw [hpe] at c8
    have HP := Lib.hid hpt; have HBL := Lib.hid hbel
    have HD3 := Lib.hid hD3; have HR3 := Lib.hid hR3
    clear hpt hbel hC3 hown3 hg3 hG3 hB3 HR2 HB2 HG2 HO2 HXE HFN hrowd hrowr hdv hrv hD3 hR3 hfn c7 hpe
    generalize ds.length = nd at *
    generalize rs.length = nr at *
    go_wp2_with fail
    refine bodyPost_ret (v := .tuple #[.agg #[.slice dA nd dc, .slice rA nr rc], .int .i64 0, .int .i64 0]) (by simp [results, Tryz.results21, go_sem, r0, r1]) rfl ?_
    refine ⟨.slice dA nd dc, .slice rA nr rc, ((ds, rs), 0, 0), rfl, HP.out, ?_, ?_, ?_⟩
    ·exact ((HD3.out.far (q := ⟨w.heap.size, 0, none⟩) (by show w.heap.size < _; omega) _).far (q := ⟨w.heap.size, 1, none⟩) (by show w.heap.size < _; omega) _).more (by omega)
    ·exact ((HR3.out.far (q := ⟨w.heap.size, 0, none⟩) (by show w.heap.size < _; omega) _).far (q := ⟨w.heap.size, 1, none⟩) (by show w.heap.size < _; omega) _).more (by omega)
    ·exact (HBL.out.setCell (p := ⟨w.heap.size, 0, none⟩) (Nat.le_refl _) _).setCell (p := ⟨w.heap.size, 1, none⟩) (Nat.le_refl _) _
end Go.Proofs.YtalgnnidhnhciaaGreatDoor
