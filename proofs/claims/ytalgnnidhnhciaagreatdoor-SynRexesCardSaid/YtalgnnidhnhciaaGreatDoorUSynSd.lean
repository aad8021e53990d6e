/- Rows of sets with names, and of rules, that the reader gathers. Contract of syn's reading of the sets. -/
import Derived.Test.YtalgnnidhnhciaaGreatDoorShort
import Derived.Test.YtalgnnidhnhciaaGreatDoorUSynSb
import Derived.Test.YtalgnnidhnhciaaGreatDoorUSynSc
import Derived.Test.YtalgnnidhnhciaaGreatDoorRowK
import Derived.Test.YtalgnnidhnhciaaGreatDoorUAny
set_option linter.unusedVariables false
set_option linter.unusedSimpArgs false
set_option maxRecDepth 100000
set_option maxHeartbeats 8000000
namespace Go.Proofs.YtalgnnidhnhciaaGreatDoor
open Go Go.RowKit
theorem info_def : (Tryz.prog.info? 37).map (fun i => (i.zero, i.size, i.bytes)) = some (some (.agg #[.string ⟨#[]⟩, .int .i64 0, .int .i64 0, .int .i64 0, .string ⟨#[]⟩, .slice none 0 0]), 6, 80) := by kernel_rfl
theorem info_rule : (Tryz.prog.info? 56).map (fun i => (i.zero, i.size, i.bytes)) = some (some (.agg #[.int .i64 0, .int .i64 0, .int .i64 0, .int .i64 0, .int .i64 0, .int .i64 0, .string ⟨#[]⟩, .slice none 0 0, .int .i64 0, .int .i64 0, .int .i64 0, .int .i64 0, .string ⟨#[]⟩, .slice none 0 0]), 14, 160) := by kernel_rfl
structure DCell where
 nm0 : ByteArray
 k : Int
 lo : Int
 hi : Int
 nm : ByteArray
 A : Option Addr
 n : Nat
 c : Nat
def DCell.val (d : DCell) : Value := .agg #[.int .i64 d.k, .int .i64 d.lo, .int .i64 d.hi, .string d.nm, .slice d.A d.n d.c]
def DCell.enc (d : DCell) : List Value := [.string d.nm0, .int .i64 d.k, .int .i64 d.lo, .int .i64 d.hi, .string d.nm, .slice d.A d.n d.c]
theorem DCell.len (d : DCell) : d.enc.length = 6 := rfl
def DefR (w : World) (S : Nat -> Prop) (x : DCell) (d : Bs × Tree) : Prop := x.nm0.data.toList = d.1 /\ TreeV false w S x.val d.2
theorem DefR.keep {w w' : World} {S S' : Nat -> Prop} {x : DCell} {d : Bs × Tree} (h : DefR w S x d) (hS : ∀ g, S g -> g < w.heap.size -> S' g) (hk : ∀ g, S g -> ∀ i y, w.cell? ⟨g, i, none⟩ = some y -> w'.cell? ⟨g, i, none⟩ = some y) : DefR w' S' x d :=
 ⟨h.1, h.2.bound.keep (fun g hg => hS g hg.1 hg.2) (fun g hg => hk g hg.1)⟩
structure RCell where
 cat : Int
 cost : Int
 k1 : Int
 lo1 : Int
 hi1 : Int
 wt1 : Int
 nm1 : ByteArray
 A1 : Option Addr
 n1 : Nat
 c1 : Nat
 k2 : Int
 lo2 : Int
 hi2 : Int
 wt2 : Int
 nm2 : ByteArray
 A2 : Option Addr
 n2 : Nat
 c2 : Nat
def RCell.left (d : RCell) : Value := .agg #[.int .i64 d.k1, .int .i64 d.lo1, .int .i64 d.hi1, .int .i64 d.wt1, .string d.nm1, .slice d.A1 d.n1 d.c1]
def RCell.right (d : RCell) : Value := .agg #[.int .i64 d.k2, .int .i64 d.lo2, .int .i64 d.hi2, .int .i64 d.wt2, .string d.nm2, .slice d.A2 d.n2 d.c2]
def RCell.enc (d : RCell) : List Value := [.int .i64 d.cat, .int .i64 d.cost, .int .i64 d.k1, .int .i64 d.lo1, .int .i64 d.hi1, .int .i64 d.wt1, .string d.nm1, .slice d.A1 d.n1 d.c1, .int .i64 d.k2, .int .i64 d.lo2, .int .i64 d.hi2, .int .i64 d.wt2, .string d.nm2, .slice d.A2 d.n2 d.c2]
theorem RCell.len (d : RCell) : d.enc.length = 14 := rfl
def RuleR (w : World) (S : Nat -> Prop) (x : RCell) (r : RuleT) : Prop := x.cat = r.cat /\ x.cost = r.cost /\ TreeV true w S x.left r.left /\ TreeV true w S x.right r.right
theorem RuleR.keep {w w' : World} {S S' : Nat -> Prop} {x : RCell} {d : RuleT} (h : RuleR w S x d) (hS : ∀ g, S g -> g < w.heap.size -> S' g) (hk : ∀ g, S g -> ∀ i y, w.cell? ⟨g, i, none⟩ = some y -> w'.cell? ⟨g, i, none⟩ = some y) : RuleR w' S' x d :=
 ⟨h.1, h.2.1, h.2.2.1.bound.keep (fun g hg => hS g hg.1 hg.2) (fun g hg => hk g hg.1), h.2.2.2.bound.keep (fun g hg => hS g hg.1 hg.2) (fun g hg => hk g hg.1)⟩
def DefsOwn (w : World) (B : Nat) (v : Value) (l : List (Bs × Tree)) : Prop :=
 ∃ cs : List DCell, w.ownsRow B 37 6 v l.length (cs.flatMap DCell.enc) /\ RowRel (DefR w (fun g => B <= g /\ some g ≠ v.ownBlock)) cs l
def RulesOwn (w : World) (B : Nat) (v : Value) (l : List RuleT) : Prop :=
 ∃ cs : List RCell, w.ownsRow B 56 14 v l.length (cs.flatMap RCell.enc) /\ RowRel (RuleR w (fun g => B <= g /\ some g ≠ v.ownBlock)) cs l
theorem own_form {w : World} {B : Nat} {t : TypeId} {k : Nat} {v : Value} {n : Nat} {xs : List Value} (h : w.ownsRow B t k v n xs) : ∃ A c, v = .slice A n c /\ n <= c /\ c <= maxLen /\ (A = none -> c = 0) := by
 rcases h.2 with ⟨rfl, rfl⟩ | ⟨g, cap, cur, rfl, _, _, h1, h2, _⟩
 ·exact ⟨none, 0, rfl, Nat.le_refl _, Nat.zero_le _, fun _ => rfl⟩
 ·exact ⟨_, cap, rfl, h1, h2, fun e => by cases e⟩
theorem RowRel.len_eq {α β : Type} {R : α -> β -> Prop} {l : List α} {m : List β} (h : RowRel R l m) {i : Nat} (hi : i < m.length) : i < l.length := by rw [h.len]; exact hi
theorem DefsOwn.names {w : World} {B b : Nat} {v : Value} {l : List (Bs × Tree)} (h : DefsOwn w B v l) (hb : b < B) (hl : l.length <= 12) : NamesB w b v (l.map Prod.fst) := by
 obtain ⟨cs, h1, h2⟩ := h
 obtain ⟨A, c, e1, e2, e3, e4⟩ := own_form h1
 have hlen : (l.map Prod.fst).length = l.length := by simp
 refine ⟨⟨A, c, by rw [hlen]; exact e1, by rw [hlen]; exact e2, e3, e4, fun i hi => ?_⟩, by rw [hlen]; exact hl⟩
 rw [hlen] at hi
 rcases h1.2 with ⟨_, h0⟩ | ⟨g, cap, cur, rfl, hg, hh, r⟩
 ·omega
 ·injection e1 with e1 _ e1c
  subst e1
  have hic := h2.len_eq hi
  have hr := h2.at_ i hic hi
  have hc : ∀ j, j < 6 -> w.cell? ⟨g, 0 + i * 6 + j, none⟩ = (cs[i].enc)[j]? := fun j hj => by
   rw [Nat.zero_add, World.ownsRow.cellAt h1 (i * 6 + j) (by omega), flatMap_at DCell.enc 6 DCell.len cs i j hic hj]
  have c0 := hc 0 (by omega); have c1 := hc 1 (by omega); have c2 := hc 2 (by omega); have c3 := hc 3 (by omega); have c4 := hc 4 (by omega); have c5 := hc 5 (by omega)
  refine ⟨g, 0, rfl, by show g ≠ b; omega, (Array.getElem?_eq_some_iff.1 hh).1, cs[i].nm0, cs[i].k, cs[i].lo, cs[i].hi, cs[i].nm, cs[i].A, cs[i].n, cs[i].c, ?_, c0, c1, c2, c3, c4, c5⟩
  rw [hr.1]
  simp [List.getD, hi]
theorem own_below {w : World} {B : Nat} {t : TypeId} {k : Nat} {v : Value} {n : Nat} {xs : List Value} (h : w.ownsRow B t k v n xs) : ∀ g, v.ownBlock = some g -> B <= g /\ g < w.heap.size := fun g hg => World.ownsRow.lt h g hg
theorem only_own {a w w' : World} {row row' : Option Nat} (h : a.grownBy w row) (k : w.grownBy w' row') (hr : ∀ j, row' = some j -> a.heap.size <= j) : a.grownBy w' row :=
 ⟨k.os.trans h.os, k.tape.trans h.tape, k.output.trans h.output, Nat.le_trans h.size k.size, fun i hi hne => (k.block i (Nat.lt_of_lt_of_le hi h.size) (fun e => by have := hr i e.symm; omega)).trans (h.block i hi hne)⟩
theorem DefsOwn.kept {w w' : World} {B b : Nat} {v : Value} {l : List (Bs × Tree)} (h : DefsOwn w B v l) (hb : b < B) (hg : w.grownBy w' (some b)) : DefsOwn w' B v l := by
 obtain ⟨cs, h1, h2⟩ := h
 refine ⟨cs, World.ownsRow.kept h1 hg ?_, h2.mono fun x d q => q.keep (fun _ h _ => h) (fun g hS i y hy => hg.cell hy (fun e => by injection e with e; have e' : g = b := e; omega))⟩
 cases hv : v.ownBlock with
 | none => exact .inl rfl
 | some g => exact .inr (fun e => by injection e with e; have := (own_below h1 g hv).1; omega)
theorem RulesOwn.kept {w w' : World} {B b : Nat} {v : Value} {l : List RuleT} (h : RulesOwn w B v l) (hb : b < B) (hg : w.grownBy w' (some b)) : RulesOwn w' B v l := by
 obtain ⟨cs, h1, h2⟩ := h
 refine ⟨cs, World.ownsRow.kept h1 hg ?_, h2.mono fun x d q => q.keep (fun _ h _ => h) (fun g hS i y hy => hg.cell hy (fun e => by injection e with e; have e' : g = b := e; omega))⟩
 cases hv : v.ownBlock with
 | none => exact .inl rfl
 | some g => exact .inr (fun e => by injection e with e; have := (own_below h1 g hv).1; omega)
theorem DefsOwn.push {w2 w3 w5 : World} {B b g cap : Nat} {v : Value} {l : List (Bs × Tree)} {cs : List DCell} {x : DCell} {d : Bs × Tree} (h2 : RowRel (DefR w2 (fun g => B <= g /\ some g ≠ v.ownBlock)) cs l) (hb : b < B) (hv : ∀ k, v.ownBlock = some k -> k < w2.heap.size) (hB : B <= w2.heap.size)
  (hg : w2.grownBy w3 (some b)) (o : Obj) (hgr : (w3.alloc o).grownBy w5 v.ownBlock) (hat : v.ownBlock = some g \/ g = (w3.alloc o).heap.size)
  (hown : w5.ownsRow B 37 6 (.slice (some ⟨g, 0, none⟩) (l.length + 1) cap) (l.length + 1) (cs.flatMap DCell.enc ++ x.enc)) (hx : x.nm0.data.toList = d.1 /\ TreeV false w3 (fun g => w2.heap.size <= g) x.val d.2) :
  DefsOwn w5 B (.slice (some ⟨g, 0, none⟩) (l.length + 1) cap) (l ++ [d]) := by
  have hz := hg.size
  have hza : (w3.alloc o).heap.size = w3.heap.size + 1 := by simp
  have hob : (Value.slice (some ⟨g, 0, none⟩) (l.length + 1) cap).ownBlock = some g := rfl
  have hal : ∀ k i y, w3.cell? ⟨k, i, none⟩ = some y -> (w3.alloc o).cell? ⟨k, i, none⟩ = some y := fun k i y hy => by rw [World.cell?_alloc_past _ _ _ (World.block_lt_of_cell? w3 _ hy)]; exact hy
  refine ⟨cs ++ [x], ?_, ?_⟩
  ·rw [List.length_append, List.flatMap_append]
   simpa using hown
  ·have hnew : DefR w5 (fun k => B <= k /\ some k ≠ (Value.slice (some ⟨g, 0, none⟩) (l.length + 1) cap).ownBlock) x d := by
    refine DefR.keep (S := fun g => w2.heap.size <= g) hx (fun k hk hlt => ⟨by omega, ?_⟩) (fun k hk i y hy => hgr.cell (hal k i y hy) (fun e => by have := hv k e.symm; omega))
    rw [hob]
    intro e
    injection e with e
    rcases hat with q | q
    ·have := hv g q; omega
    ·omega
   refine RowRel.push hnew (h2.mono fun a c q => ?_)
   refine q.keep (fun k hk hlt => ⟨hk.1, ?_⟩) (fun k hk i y hy => hgr.cell (hal k i y (hg.cell hy (fun e => by injection e with e; have e' : k = b := e; have := hk.1; omega))) hk.2)
   rw [hob]
   intro e
   injection e with e
   rcases hat with q | q
   ·exact hk.2 (by rw [q, e])
   ·omega
theorem RulesOwn.push {w2 w3 w5 : World} {B b g cap : Nat} {v : Value} {l : List RuleT} {cs : List RCell} {x : RCell} {d : RuleT} (h2 : RowRel (RuleR w2 (fun g => B <= g /\ some g ≠ v.ownBlock)) cs l) (hb : b < B) (hv : ∀ k, v.ownBlock = some k -> k < w2.heap.size) (hB : B <= w2.heap.size)
  (hg : w2.grownBy w3 (some b)) (o : Obj) (hgr : (w3.alloc o).grownBy w5 v.ownBlock) (hat : v.ownBlock = some g \/ g = (w3.alloc o).heap.size)
  (hown : w5.ownsRow B 56 14 (.slice (some ⟨g, 0, none⟩) (l.length + 1) cap) (l.length + 1) (cs.flatMap RCell.enc ++ x.enc)) (hx : RuleR w3 (fun g => w2.heap.size <= g) x d) :
  RulesOwn w5 B (.slice (some ⟨g, 0, none⟩) (l.length + 1) cap) (l ++ [d]) := by
  have hz := hg.size
  have hza : (w3.alloc o).heap.size = w3.heap.size + 1 := by simp
  have hob : (Value.slice (some ⟨g, 0, none⟩) (l.length + 1) cap).ownBlock = some g := rfl
  have hal : ∀ k i y, w3.cell? ⟨k, i, none⟩ = some y -> (w3.alloc o).cell? ⟨k, i, none⟩ = some y := fun k i y hy => by rw [World.cell?_alloc_past _ _ _ (World.block_lt_of_cell? w3 _ hy)]; exact hy
  refine ⟨cs ++ [x], ?_, ?_⟩
  ·rw [List.length_append, List.flatMap_append]
   simpa using hown
  ·have hnew : RuleR w5 (fun k => B <= k /\ some k ≠ (Value.slice (some ⟨g, 0, none⟩) (l.length + 1) cap).ownBlock) x d := by
    refine hx.keep (fun k hk hlt => ⟨by omega, ?_⟩) (fun k hk i y hy => hgr.cell (hal k i y hy) (fun e => by have := hv k e.symm; omega))
    rw [hob]
    intro e
    injection e with e
    rcases hat with q | q
    ·have := hv g q; omega
    ·omega
   refine RowRel.push hnew (h2.mono fun a c q => ?_)
   refine q.keep (fun k hk hlt => ⟨hk.1, ?_⟩) (fun k hk i y hy => hgr.cell (hal k i y (hg.cell hy (fun e => by injection e with e; have e' : k = b := e; have := hk.1; omega))) hk.2)
   rw [hob]
   intro e
   injection e with e
   rcases hat with q | q
   ·exact hk.2 (by rw [q, e])
   ·omega
theorem St.rules {w : World} {b : Nat} {s : ByteArray} {x : X} {df rl : Value} {dp : Int} (h : St w b s x df rl dp) : w.cell? ⟨b, 10, none⟩ = some rl := by
 obtain ⟨p, h1, h2, h3, h4, _⟩ := h.ex
 rw [<- h4]; exact h1.c10
theorem St.fz {w : World} {b : Nat} {s : ByteArray} {x : X} {df rl : Value} {dp : Int} (h : St w b s x df rl dp) (i : Nat) : w.frozen? ⟨b, i, none⟩ = false := by
 obtain ⟨p, h1, _⟩ := h.ex
 exact h1.fz i
theorem St.setDefs {w : World} {b : Nat} {s : ByteArray} {x : X} {df rl : Value} {dp : Int} (h : St w b s x df rl dp) (v : Value) : St (w.setCell ⟨b, 9, none⟩ v) b s x v rl dp := by
 obtain ⟨⟨p, h1, h2, h3, h4, h5⟩, hE, hlt, hn⟩ := h
 refine ⟨⟨_, h1.set9 v, ?_, rfl, h4, h5⟩, hE.keep fun y hy => ?_, hlt, hn⟩
 ·cases x <;> exact h2
 ·rw [World.cell?_setCell_other _ _ _ _ (fun e => by injection e with e1 e2; omega)]; exact hy
theorem St.setRules {w : World} {b : Nat} {s : ByteArray} {x : X} {df rl : Value} {dp : Int} (h : St w b s x df rl dp) (v : Value) : St (w.setCell ⟨b, 10, none⟩ v) b s x df v dp := by
 obtain ⟨⟨p, h1, h2, h3, h4, h5⟩, hE, hlt, hn⟩ := h
 refine ⟨⟨_, h1.set10 v, ?_, h3, rfl, h5⟩, hE.keep fun y hy => ?_, hlt, hn⟩
 ·cases x <;> exact h2
 ·rw [World.cell?_setCell_other _ _ _ _ (fun e => by injection e with e1 e2; omega)]; exact hy
theorem St.row {w w' : World} {b : Nat} {s : ByteArray} {x : X} {df rl : Value} {dp : Int} {row : Option Nat} (h : St w b s x df rl dp) (hg : w.grownBy w' row) (hr : ∀ j, row = some j -> b < j) : St w' b s x df rl dp := by
 have hbl := h.blt
 obtain ⟨⟨p, h1, h2⟩, hE, hlt, hn⟩ := h
 exact ⟨⟨p, Blk.grown h1 hg (fun e => by have := hr b e.symm; omega), h2⟩, hE.keep fun y hy => hg.cell hy (fun e => by have := hr _ e.symm; simp at this; omega), hlt, hn⟩
end Go.Proofs.YtalgnnidhnhciaaGreatDoor
namespace Go.Proofs.YtalgnnidhnhciaaGreatDoor
open Go Go.RowKit
attribute [local go_sem] field_sign2 field_sign3
structure LoopD (w : World) (b : Nat) (s : ByteArray) (rl : Value) (y : Rd (List (Bs × Tree))) (df : Value) (gk : Nat) (wr : World) : Prop where
 st : St wr b s y.st df rl 0
 gr : w.grownBy wr (some b)
 own : ∀ l ts, y = .ok (l, ts) -> DefsOwn wr w.heap.size df l /\ l.length <= 12 /\ l.length + gk = 13
def ReadsDs (w : World) (b : Nat) (s : ByteArray) (Y : Rd (List (Bs × Tree))) (rl : Value) (e : Ending) (w' : World) : Prop :=
 e = .returned (.tuple #[]) /\ ∃ df, St w' b s Y.st df rl 0 /\ (∀ l ts, Y = .ok (l, ts) -> DefsOwn w' w.heap.size df l /\ l.length <= 12) /\ w.grownBy w' (some b)
theorem defs_st {w : World} {b : Nat} {s : ByteArray} {x : X} {rl : Value} (h : St w b s x (.slice none 0 0) rl 0) :
  Calls Tryz.prog 41 #[.pointer (some ⟨b, 0, none⟩)] w (ReadsDs w b s (x.into (defsR (s.data.toList.length + 1) 13 [])) rl) := by
  have hblt := h.blt
  obtain ⟨F, hF⟩ : ∃ F, s.data.toList.length + 1 = F := ⟨_, rfl⟩
  have hdef : ∀ D W ts df, St W b s (.ok ts) df rl 0 -> kd ts = 262 -> NamesB W b df D -> Calls Tryz.prog 75 #[.pointer (some ⟨b, 0, none⟩)] W (ReadsD W b s (defR F D ts) df rl) := fun D W ts df hW hk hNW => by
   have := def_st D hW hk hNW
   rw [hF] at this; exact this
  rw [hF]
  obtain ⟨TOT, hTOT⟩ : ∃ TOT, x.into (defsR F 13 []) = TOT := ⟨_, rfl⟩
  have hL0 : LoopD w b s rl (x.give []) (.slice none 0 0) 13 w := ⟨by rw [give_st]; exact h, only_refl _ _, fun l ts e => by
   cases x with
   | error z => cases e
   | ok z => cases e; exact ⟨⟨[], World.ownsRow_nil _ _ _ _, trivial⟩, Nat.zero_le _, rfl⟩⟩
  have hT0 : TOT = (x.give ([] : List (Bs × Tree))).then_ fun l ts => defsR F 13 l ts := by rw [<- hTOT]; cases x <;> rfl
  rw [hTOT]
  have HL0 := Lib.hid hL0; have HT0 := Lib.hid hT0; have HDF := Lib.hid hdef
  clear hL0 hT0 hTOT hF hdef h
  go_enter Tryz.func41, Tryz.ntmps41
  go_wp2_with fail
  go_loopg [2] 13 (fun gk v2 wr => ∃ (y : Rd (List (Bs × Tree))) (df : Value), Hid (LoopD w b s rl y df gk wr) /\ Hid (TOT = y.then_ fun l ts => defsR F gk l ts))
  case atStart => exact ⟨x.give [], .slice none 0 0, HL0, HT0⟩
  case round =>
   clear HL0 HT0
   obtain ⟨y, df, HLo, HTo⟩ := hrel
   have c2 := HLo.out.st.kind
   have c9 := HLo.out.st.defs
   by_cases h262 : kX y.st = 262
   ·obtain ⟨l, ts, rfl⟩ : ∃ l ts, y = .ok (l, ts) := by
     cases y with
     | ok p => exact ⟨p.1, p.2, rfl⟩
     | error e => simp [Rd.st, kX] at h262
    have hk : kd ts = 262 := Int.ofNat.inj h262
    have q : (kX (Rd.st (.ok (l, ts) : Rd (List (Bs × Tree)))) == 262) = true := by simpa using h262
    obtain ⟨hown, hl12, hl13⟩ := HLo.out.own l ts rfl
    have hnm := hown.names hblt hl12
    obtain ⟨cs, hrow, hrel⟩ := hown
    obtain ⟨A, c, rfl, hnc, hcm, hnil⟩ := own_form hrow
    unfold maxLen at hcm
    have hSt : St wr b s (.ok ts) (.slice A l.length c) rl 0 := HLo.out.st
    obtain ⟨gk', rfl⟩ : ∃ gk', gk = gk' + 1 := ⟨gk - 1, by omega⟩
    by_cases h12 : l.length = 12
    ·have hf := fail_st hSt 2 (by omega)
     have htot : TOT = .error (2, ts) := by
      rw [HTo.out, then_ok, defsR, if_pos (by simp [hk]), if_pos (by simp [h12])]
     have q12 : ((l.length : Int) == 12) = true := by simp; omega
     have HF := Lib.hid hf; have HTT := Lib.hid htot; have HGR := Lib.hid HLo.out.gr
     clear hf htot hSt hrow hrel hnm h262 hk HLo HTo HDF
     go_wp2_with fail
     refine HF.out.mono ?_
     rintro e w1 ⟨rfl, hS1, hg1⟩
     have HS1 := Lib.hid hS1; have HG1 := Lib.hid hg1; clear hS1 hg1
     go_wp2_with fail
     go_end0
     rw [HTT.out]
     exact ⟨rfl, _, HS1.out, fun l ts e => by (cases e), only_trans HGR.out HG1.out⟩
    ·have q12 : ((l.length : Int) == 12) = false := by simp; omega
     have hca := HDF.out (l.map Prod.fst) wr.drew ts _ hSt.drew hk hnm
     have htot : TOT = ((defR F (l.map Prod.fst) ts).then_ fun d t1 => (.ok (l ++ [d], t1) : Rd (List (Bs × Tree)))).then_ fun l ts => defsR F gk' l ts := by
      rw [HTo.out, then_ok, defsR, if_pos (by simp [hk]), if_neg (by simp [h12])]
      cases defR F (l.map Prod.fst) ts <;> rfl
     have hne : (Value.slice A l.length c).ownBlock = none \/ (Value.slice A l.length c).ownBlock ≠ some b := by
      cases hv : (Value.slice A l.length c).ownBlock with
      | none => exact .inl rfl
      | some g => exact .inr (fun e => by injection e with e; have := (own_below hrow g hv).1; omega)
     have HCA := Lib.hid hca; have HTT := Lib.hid htot; have HGR := Lib.hid HLo.out.gr; have HOW := Lib.hid hrow; have HRR := Lib.hid hrel; have HNE := Lib.hid hne
     clear hca htot hSt hrow hrel hnm h262 hk HLo HTo HDF hne
     go_wp2_with fail
     refine region_x 13 (fun w' : World => w'.cell? ⟨b, 9, none⟩ = some (.slice A l.length c)) (by kernel_rfl) ?_
     have hS : wr.drew.cell? ⟨b, 9, none⟩ = some (.slice A l.length c) := c9
     refine anyX_takeG [10, 11, 12] (i := 0) (v := ?_) rfl (by kernel_rfl) (by kernel_rfl) (by kernel_rfl) (by kernel_rfl) (by kernel_rfl) (fun _ _ _ h => h) (Or.inl ⟨by rfl, ?_⟩) hS ?_
     rotate_left
     ·intro w' s0
      go_simp
      try with_reducible rfl
     try simp only [Act.put, zq1, zq2, zq3, zq4, zq5, zq6]
     refine anyX_takeG [10, 11, 12] (i := 1) (v := ?_) rfl (by kernel_rfl) (by kernel_rfl) (by kernel_rfl) (by kernel_rfl) (by kernel_rfl) (fun _ _ _ h => h) (Or.inl ⟨by rfl, ?_⟩) hS ?_
     rotate_left
     ·intro w' s0
      go_simp
      try with_reducible rfl
     try simp only [Act.put, zq1, zq2, zq3, zq4, zq5, zq6]
     refine anyX_takeG [10, 11, 12] (i := 2) (v := ?_) rfl (by kernel_rfl) (by kernel_rfl) (by kernel_rfl) (by kernel_rfl) (by kernel_rfl) (fun _ _ _ h => h) (Or.inl ⟨by rfl, ?_⟩) hS ?_
     rotate_left
     ·intro w' s0
      go_simp
      try with_reducible rfl
     try simp only [Act.put, zq1, zq2, zq3, zq4, zq5, zq6]
     refine anyX_takeG [10, 11, 12] (i := 3) (v := ?_) rfl (by kernel_rfl) (by kernel_rfl) (by kernel_rfl) (by kernel_rfl) (by kernel_rfl) (fun _ _ _ h => h) (Or.inl ⟨by rfl, ?_⟩) hS ?_
     rotate_left
     ·intro w' s0
      go_simp
      try with_reducible rfl
     try simp only [Act.put, zq1, zq2, zq3, zq4, zq5, zq6]
     refine anyX_takeG [10, 11, 12] (i := 4) (v := ?_) rfl (by kernel_rfl) (by kernel_rfl) (by kernel_rfl) (by kernel_rfl) (by kernel_rfl) (fun _ _ _ h => h) (Or.inl ⟨by rfl, ?_⟩) hS ?_
     rotate_left
     ·intro w' s0
      go_simp
      try with_reducible rfl
     try simp only [Act.put, zq1, zq2, zq3, zq4, zq5, zq6]
     refine anyX_takeG [10, 11, 12] (i := 5) (v := ?_) rfl (by kernel_rfl) (by kernel_rfl) (by kernel_rfl) (by kernel_rfl) (by kernel_rfl) (fun _ _ _ h => h) (Or.inl ⟨by rfl, ?_⟩) hS ?_
     rotate_left
     ·intro w' s0
      go_simp
      try with_reducible rfl
     try simp only [Act.put, zq1, zq2, zq3, zq4, zq5, zq6]
     refine anyX_takeG [10, 11, 12] (i := 6) (v := ?_) rfl (by kernel_rfl) (by kernel_rfl) (by kernel_rfl) (by kernel_rfl) (by kernel_rfl) (fun _ _ _ h => h) (Or.inl ⟨by rfl, ?_⟩) hS ?_
     rotate_left
     ·intro w' s0
      go_simp
      try with_reducible rfl
     try simp only [Act.put, zq1, zq2, zq3, zq4, zq5, zq6]
     refine anyX_g (i := 7) (by kernel_rfl) (by decide) rfl (by rfl) ?_
     intro K hK
     try simp only [zq1, zq2, zq3]
     refine wp_enterE #[.pointer (some ⟨b, 0, none⟩)] Tryz.func75 (by kernel_rfl) (by kernel_rfl) ?_ HCA.out ?_
     ·go_simp
     rintro e w3 ⟨nm0, k, lo, hi, nm, A1, n1, c1, rfl, hT, hS3, hg3⟩
     refine ⟨_, rfl, ?_⟩
     have hg3' : wr.grownBy w3 (some b) := only_trans (only_drew (only_refl wr (some b))) hg3
     have c9' : w3.cell? ⟨b, 9, none⟩ = some (.slice A l.length c) := hS3.defs
     refine hK _ _ c9' ?_
     clear hK hS
     try simp only [Act.put, zq1, zq2, zq3, zq4, zq5, zq6]
     refine anyX_g (i := 8) (by kernel_rfl) (by decide) rfl (by rfl) ?_
     intro K hK
     try simp only [zq1, zq2, zq3]
     go_simp
     have c9a : (w3.alloc (.cells #[.string nm0, .int .i64 k, .int .i64 lo, .int .i64 hi, .string nm, .slice A1 n1 c1] 37)).cell? ⟨b, 9, none⟩ = some (.slice A l.length c) := (hS3.alloc _).defs
     refine hK _ _ c9a ?_
     clear hK
     try simp only [Act.put, zq1, zq2, zq3, zq4, zq5, zq6]
     refine anyX_g (i := 9) (by kernel_rfl) (by decide) rfl (by rfl) ?_
     intro K hK
     try simp only [zq1, zq2, zq3]
     refine wp_pushK rfl (.tmp 25) (.tmp 28) 24 37 rfl 6 80 _ Tryz.underlying24 info_def rfl (by omega) (by omega) w.heap.size (.slice A l.length c) l.length (cs.flatMap DCell.enc) (by rfl) ((World.ownsRow.kept HOW.out hg3' HNE.out).alloc _) w3.heap.size (by rfl) #[.string nm0, .int .i64 k, .int .i64 lo, .int .i64 hi, .string nm, .slice A1 n1 c1] rfl (Blk.new w3 _ _) (by simp [Value.oneCell']) (by omega) (by have := hg3'.size; have := HGR.out.size; simp; omega) ?_
     intro g cap w5 hown5 hgr5 hat5
     have hS5 := (hS3.alloc (.cells #[.string nm0, .int .i64 k, .int .i64 lo, .int .i64 hi, .string nm, .slice A1 n1 c1] 37)).row hgr5 (fun j e => by have := (own_below HOW.out j e).1; omega)
     have c9b : w5.cell? ⟨b, 9, none⟩ = some (.slice A l.length c) := hS5.defs
     refine hK _ _ c9b ?_
     clear hK
     try simp only [Act.put, zq1, zq2, zq3, zq4, zq5, zq6]
     refine anyX_g (i := 10) (by kernel_rfl) (by decide) rfl (by rfl) ?_
     intro K hK
     try simp only [zq1, zq2, zq3]
     go_simp
     refine hK _ _ c9b ?_
     clear hK
     try simp only [Act.put, zq1, zq2, zq3, zq4, zq5, zq6]
     refine anyX_g (i := 11) (by kernel_rfl) (by decide) rfl (by rfl) ?_
     intro K hK
     try simp only [zq1, zq2, zq3]
     go_simp
     refine hK _ _ c9b ?_
     clear hK
     try simp only [Act.put, zq1, zq2, zq3, zq4, zq5, zq6]
     refine anyX_g (i := 12) (by kernel_rfl) (by decide) rfl (by rfl) ?_
     intro K hK
     try simp only [zq1, zq2, zq3]
     go_simp
     refine hK _ _ c9b ?_
     clear hK
     try simp only [Act.put, zq1, zq2, zq3, zq4, zq5, zq6]
     refine anyX_last (by kernel_rfl) (by kernel_rfl) rfl rfl ?_
     try simp only [zq1, zq2, zq3]
     have f9 := hS5.fz 9
     have hSN := hS5.setDefs (.slice (some ⟨g, 0, none⟩) (l.length + 1) cap)
     have hGN := only_setCell (p := ⟨b, 9, none⟩) (only_own (only_alloc (only_trans HGR.out hg3') (.cells #[.string nm0, .int .i64 k, .int .i64 lo, .int .i64 hi, .string nm, .slice A1 n1 c1] 37)) hgr5 (fun j e => (own_below HOW.out j e).1)) (.inl rfl) (.slice (some ⟨g, 0, none⟩) (l.length + 1) cap)
     have hnx : ∀ l' ts', ((defR F (l.map Prod.fst) ts).then_ fun d t1 => (.ok (l ++ [d], t1) : Rd (List (Bs × Tree)))) = .ok (l', ts') -> DefsOwn (w5.setCell ⟨b, 9, none⟩ (.slice (some ⟨g, 0, none⟩) (l.length + 1) cap)) w.heap.size (.slice (some ⟨g, 0, none⟩) (l.length + 1) cap) l' /\ l'.length <= 12 /\ l'.length + gk' = 13 := fun l' ts' e => by
      obtain ⟨d, hd, rfl⟩ : ∃ d, defR F (l.map Prod.fst) ts = .ok (d, ts') /\ l' = l ++ [d] := by
       cases hq : defR F (l.map Prod.fst) ts with
       | error z => rw [hq] at e; cases e
       | ok p => obtain ⟨d, t1⟩ := p; rw [hq, then_ok] at e; cases e; exact ⟨d, rfl, rfl⟩
      have hp := DefsOwn.push (x := ⟨nm0, k, lo, hi, nm, A1, n1, c1⟩) (d := d) HRR.out hblt (fun j e => (own_below HOW.out j e).2) HGR.out.size hg3' (.cells #[.string nm0, .int .i64 k, .int .i64 lo, .int .i64 hi, .string nm, .slice A1 n1 c1] 37) hgr5 hat5 hown5 (hT d ts' hd)
      exact ⟨hp.kept hblt (only_setCell (p := ⟨b, 9, none⟩) (only_refl w5 (some b)) (.inl rfl) _), by simp; omega, by simp; omega⟩
     have HLN := Lib.hid (show LoopD w b s rl ((defR F (l.map Prod.fst) ts).then_ fun d t1 => (.ok (l ++ [d], t1) : Rd (List (Bs × Tree)))) (.slice (some ⟨g, 0, none⟩) (l.length + 1) cap) gk' _ from ⟨by
      have e : ((defR F (l.map Prod.fst) ts).then_ fun d t1 => (.ok (l ++ [d], t1) : Rd (List (Bs × Tree)))).st = (defR F (l.map Prod.fst) ts).st := by cases defR F (l.map Prod.fst) ts <;> rfl
      rw [e]; exact hSN, hGN, hnx⟩)
     clear hSN hGN hS5 hS3 hT hgr5 hown5 hat5 hg3 hg3' c9' c9a
     go_simp
     try apply_assumption
     go_roundg gk'
     case measure => omega
     case rel => exact ⟨_, _, HLN, HTT⟩
   ·have q : (kX y.st == 262) = false := by simpa using h262
    have htot : TOT = y := by
     rw [HTo.out]
     cases y with
     | error e => rfl
     | ok p =>
       obtain ⟨l, ts⟩ := p
       have hk : kd ts ≠ 262 := fun e => h262 (by simp [Rd.st, kX, e])
       rw [then_ok]
       cases gk with
       | zero => rfl
       | succ g => rw [defsR, if_neg (by simp [hk])]
    have HTT := Lib.hid htot; clear htot h262 HTo HDF c9
    go_wp2_with fail
    go_end0
    rw [HTT.out]
    exact ⟨rfl, df, HLo.out.st, fun l ts e => ⟨(HLo.out.own l ts e).1, (HLo.out.own l ts e).2.1⟩, HLo.out.gr⟩
end Go.Proofs.YtalgnnidhnhciaaGreatDoor
