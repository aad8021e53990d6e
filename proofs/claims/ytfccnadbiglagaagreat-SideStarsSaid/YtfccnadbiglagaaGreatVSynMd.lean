/- What syn's sets mean: contract of every set; rows of rows that the call itself gathers. Contract of syn.Sets. -/
import Derived.Test.YtfccnadbiglagaaGreatVSynMc
import Derived.Test.YtfccnadbiglagaaGreatVSynWd
set_option linter.unusedVariables false
set_option linter.unusedSimpArgs false
set_option maxRecDepth 100000
set_option maxHeartbeats 8000000
namespace Go.Proofs.YtfccnadbiglagaaGreat
open Go Go.RowKit
theorem class_m (D : List Bs) (ss : List Rg) (hss : RtA ss) : ∀ p : Cls, MSpec D ss p
 | .range x y => m_leaf D ss _ (.inl ⟨x, y, rfl⟩)
 | .any_ => m_leaf D ss _ (.inr (.inl rfl))
 | .name s => m_leaf D ss _ (.inr (.inr ⟨s, rfl⟩))
 | .not_ a => m_not D ss hss a (class_m D ss hss a)
 | .or_ a b => fun w b' v hT hM => by have := m_two D ss hss a b (class_m D ss hss a) (class_m D ss hss b) 5 (.inl rfl) w b' v hT hM; exact this
 | .and_ a b => fun w b' v hT hM => by have := m_two D ss hss a b (class_m D ss hss a) (class_m D ss hss b) 6 (.inr (.inl rfl)) w b' v hT hM; exact this
 | .less a b => fun w b' v hT hM => by have := m_two D ss hss a b (class_m D ss hss a) (class_m D ss hss b) 7 (.inr (.inr rfl)) w b' v hT hM; exact this
def meanF (D : List Bs) (ss : List Rg) (cs : List Cls) : List Rg := cs.foldl (fun ss c => ss ++ [meanC D ss c]) ss
theorem meanF_len (D : List Bs) (cs : List Cls) : ∀ ss, (meanF D ss cs).length = ss.length + cs.length := by
 induction cs with
 | nil => intro ss; rfl
 | cons c cs ih => intro ss; show (meanF D (ss ++ [meanC D ss c]) cs).length = _; rw [ih]; simp; omega
theorem meanF_rt (D : List Bs) (cs : List Cls) : ∀ ss, RtA ss -> RtA (meanF D ss cs) := by
 induction cs with
 | nil => intro ss h; exact h
 | cons c cs ih =>
   intro ss h
   refine ih _ fun l hl => ?_
   ·rcases List.mem_append.1 hl with h1 | h1
    ·exact h l h1
    ·simp at h1; rw [h1]; exact meanC_rt h c
def setsOf (defs : List DefP) (i : Nat) : List Rg := meanF (defs.map DefP.name) [] ((defs.map DefP.c).take i)
theorem setsOf_len (defs : List DefP) (i : Nat) (hi : i <= defs.length) : (setsOf defs i).length = i := by
 unfold setsOf
 rw [meanF_len, List.length_take, List.length_map]
 simp; omega
theorem setsOf_rt (defs : List DefP) (i : Nat) : RtA (setsOf defs i) := meanF_rt _ _ _ fun l hl => by cases hl
theorem setsOf_next (defs : List DefP) (i : Nat) (hi : i < defs.length) : setsOf defs (i + 1) = setsOf defs i ++ [meanC (defs.map DefP.name) (setsOf defs i) (defs[i]).c] := by
 unfold setsOf
 have h : i < (defs.map DefP.c).length := by rw [List.length_map]; exact hi
 rw [List.take_succ_eq_append_getElem h]
 unfold meanF
 rw [List.foldl_append]
 simp
def SetsOwn (w : World) (B : Nat) (v : Value) (ss : List Rg) : Prop :=
 ∃ us : List Value, w.ownsRow B 94 1 v ss.length us /\ RowRel (fun u l => OwnP w B u l.length l /\ (u.ownBlock = none \/ u.ownBlock ≠ v.ownBlock)) us ss /\ us.Pairwise fun u u' => u.ownBlock = none \/ u.ownBlock ≠ u'.ownBlock
theorem SetsOwn.nil (w : World) (B : Nat) : SetsOwn w B (.slice none 0 0) [] := ⟨[], World.ownsRow_nil _ _ _ _, trivial, .nil⟩
theorem SetsOwn.kept {w w' : World} {B : Nat} {v : Value} {ss : List Rg} {row : Option Nat} (h : SetsOwn w B v ss) (hne : ∀ g, row = some g -> g < B) (hg : w.grownBy w' row) : SetsOwn w' B v ss := by
 obtain ⟨us, h1, h2, h3⟩ := h
 have hn : ∀ u : Value, (∀ g, u.ownBlock = some g -> B <= g) -> u.ownBlock = none \/ u.ownBlock ≠ row := fun u hu => by
  cases hv : u.ownBlock with
  | none => exact .inl rfl
  | some g => exact .inr (fun e => by have := hne g e.symm; have := hu g hv; omega)
 exact ⟨us, World.ownsRow.kept h1 hg (hn v fun g e => (own_below h1 g e).1), h2.mono fun u l q => ⟨q.1.kept hg (hn u fun g e => (q.1.lt g e).1), q.2⟩, h3⟩
theorem SetsOwn.reads {w : World} {B : Nat} {v : Value} {ss : List Rg} (h : SetsOwn w B v ss) : ReadsL w v ss.length ss := by
 obtain ⟨us, h1, h2, h3⟩ := h
 obtain ⟨A, c, e1, e2, e3, e4⟩ := own_form h1
 refine ⟨rfl, A, c, e1, e2, e3, e4, fun i hi => ?_⟩
 rcases h1.2 with ⟨_, h0⟩ | ⟨g, cap, cur, rfl, hg, hh, r⟩
 ·omega
 ·injection e1 with e1 _ e1c
  subst e1
  have hiu := h2.len_eq hi
  refine ⟨g, 0, us[i], rfl, ?_, ?_⟩
  ·rw [Nat.zero_add, World.ownsRow.cellAt h1 i (by omega), List.getElem?_eq_getElem hiu]
  ·have e : ss.getD i [] = ss[i] := by simp [List.getD, hi]
   rw [e]
   exact (h2.at_ i hiu hi).1.reads
theorem SetsOwn.more {w : World} {B B' : Nat} {v : Value} {ss : List Rg} (h : SetsOwn w B v ss) (hB : B' <= B) : SetsOwn w B' v ss := by
 obtain ⟨us, h1, h2, h3⟩ := h
 refine ⟨us, ?_, h2.mono fun u l q => ⟨q.1.more hB, q.2⟩, h3⟩
 obtain ⟨h1, q⟩ := h1
 refine ⟨h1, ?_⟩
 rcases q with q | ⟨g, cap, cur, rfl, hg, r⟩
 ·exact .inl q
 ·exact .inr ⟨g, cap, cur, rfl, by omega, r⟩
theorem SetsOwn.push {w w1 w5 : World} {B g cap n : Nat} {v u : Value} {ss : List Rg} {l : Rg} {us : List Value} (hn : ss.length = n) (h2 : RowRel (fun u l => OwnP w B u l.length l /\ (u.ownBlock = none \/ u.ownBlock ≠ v.ownBlock)) us ss)
  (h3 : us.Pairwise fun u u' => u.ownBlock = none \/ u.ownBlock ≠ u'.ownBlock) (hv : ∀ k, v.ownBlock = some k -> k < w.heap.size) (hB : B <= w.heap.size) (hb : Below w.heap.size w w1) (o : Obj) (hgr : (w1.alloc o).grownBy w5 v.ownBlock)
  (hat : v.ownBlock = some g \/ g = (w1.alloc o).heap.size) (hown : w5.ownsRow B 94 1 (.slice (some ⟨g, 0, none⟩) (n + 1) cap) (n + 1) (us ++ [u])) (hu : OwnP w1 w.heap.size u l.length l) :
  SetsOwn w5 B (.slice (some ⟨g, 0, none⟩) (n + 1) cap) (ss ++ [l]) := by
  subst hn
  have hza : (w1.alloc o).heap.size = w1.heap.size + 1 := by simp
  have hz := hb.size
  have hob : (Value.slice (some ⟨g, 0, none⟩) (ss.length + 1) cap).ownBlock = some g := rfl
  have holt : ∀ x ∈ us, ∀ k, x.ownBlock = some k -> k < w.heap.size := by
   clear h3 hown hat hgr
   induction us generalizing ss with
   | nil => intro x hx; cases hx
   | cons a us ih =>
     cases ss with
     | nil => exact h2.elim
     | cons s ss =>
       intro x hx k hk
       rcases List.mem_cons.1 hx with rfl | hx
       ·exact (h2.1.1.lt k hk).2
       ·exact ih h2.2 rfl x hx k hk
  refine ⟨us ++ [u], ?_, ?_, ?_⟩
  ·rw [List.length_append]; simpa using hown
  ·have hnew : OwnP w5 B u l.length l /\ (u.ownBlock = none \/ u.ownBlock ≠ (Value.slice (some ⟨g, 0, none⟩) (ss.length + 1) cap).ownBlock) := by
    refine ⟨((hu.alloc o).kept hgr ?_).more hB, ?_⟩
    ·cases hk : u.ownBlock with
     | none => exact .inl rfl
     | some k => exact .inr (fun e => by have := hv k e.symm; have := (hu.lt k hk).1; omega)
    ·rw [hob]
     cases hk : u.ownBlock with
     | none => exact .inl rfl
     | some k =>
       refine .inr (fun e => ?_)
       injection e with e
       have := hu.lt k hk
       rcases hat with q | q
       ·have := hv g q; omega
       ·omega
   refine RowRel.push (R := fun u l => OwnP w5 B u l.length l /\ (u.ownBlock = none \/ u.ownBlock ≠ (Value.slice (some ⟨g, 0, none⟩) (ss.length + 1) cap).ownBlock)) hnew (h2.mono fun x y q => ?_)
   refine ⟨((q.1.below_top hb).alloc o).kept hgr q.2, ?_⟩
   rw [hob]
   cases hk : x.ownBlock with
   | none => exact .inl rfl
   | some k =>
     refine .inr (fun e => ?_)
     injection e with e
     rcases hat with r | r
     ·rcases q.2 with q | q
      ·rw [q] at hk; cases hk
      ·exact q (by rw [hk, r, e])
     ·have := (q.1.lt k hk).2; omega
  ·rw [List.pairwise_append]
   refine ⟨h3, List.pairwise_singleton _ _, fun a ha b hb' => ?_⟩
   simp at hb'
   subst hb'
   cases hk : a.ownBlock with
   | none => exact .inl rfl
   | some k => exact .inr (fun e => by have := holt a ha k hk; have := (hu.lt k e.symm).1; omega)
theorem DefsAt.names {w : World} {S : Nat -> Prop} {v : Value} {l : List DefP} (h : DefsAt w S v (l.map DefP.tree)) (hnil : ∀ A n c, v = .slice A n c -> A = none -> c = 0) (hlt : ∀ g, S g -> g < w.heap.size) : Names w (fun _ => True) v (l.map DefP.name) := by
 obtain ⟨A, c, cs, h1, h2, h3, h4, h5, h6⟩ := h
 rw [List.length_map] at h1 h2 h4
 refine ⟨A, c, by rw [List.length_map]; exact h1, by rw [List.length_map]; exact h2, h3, fun e => hnil _ _ _ h1 e, fun i hi => ?_⟩
 rw [List.length_map] at hi
 obtain ⟨g, o, rfl⟩ := h4.some (by omega)
 have hic : i < cs.length := by rw [h5.len, List.length_map]; exact hi
 obtain ⟨q1, q2⟩ := h6 g o rfl i hic
 have hr := h5.at_ i hic (by rw [List.length_map]; exact hi)
 have c0 := q2 0 _ rfl; have c1 := q2 1 _ rfl; have c2 := q2 2 _ rfl; have c3 := q2 3 _ rfl; have c4 := q2 4 _ rfl; have c5 := q2 5 _ rfl
 refine ⟨g, o, rfl, trivial, hlt g q1, cs[i].nm0, cs[i].k, cs[i].lo, cs[i].hi, cs[i].nm, cs[i].A, cs[i].n, cs[i].c, ?_, c0, c1, c2, c3, c4, c5⟩
 rw [hr.1]
 simp [List.getD, hi, DefP.tree]
end Go.Proofs.YtfccnadbiglagaaGreat
namespace Go.Proofs.YtfccnadbiglagaaGreat
open Go Go.RowKit Go.Proofs
theorem info_ranges : (Tryz.prog.info? 94).map (fun i => (i.zero, i.size, i.bytes)) = some (some (.slice none 0 0), 1, 24) := by kernel_rfl
structure LoopS (w : World) (AD : Option Addr) (nd cD : Nat) (rs sv : Value) (ss : List Rg) (wr : World) : Prop where
 below : Below w.heap.size w wr
 size : w.heap.size + 2 <= wr.heap.size
 m : Blk wr (w.heap.size + 1) 140 #[.slice AD nd cD, rs, sv]
 own : SetsOwn wr (w.heap.size + 2) sv ss
theorem sets_ok (defs : List DefP) (hnd : defs.length <= 1000) (w : World) (ds : Value) (RA : Option Addr) (RN RC : Nat) (hD : DefsAt w (fun g => g < w.heap.size) ds (defs.map DefP.tree)) (hnil : ∀ A n c, ds = .slice A n c -> A = none -> c = 0) :
  Calls Tryz.prog 57 #[.agg #[ds, .slice RA RN RC]] w fun e w' => ∃ v, e = .returned v /\ SetsOwn w' w.heap.size v (setsOf defs defs.length) /\ Below w.heap.size w w' := by
  have hN := hD.names hnil (fun _ h => h)
  obtain ⟨AD, cD, csD, rfl, hD1, hD2, hD3, hD4, hD5⟩ := hD
  obtain ⟨nd, hndE⟩ : ∃ nd, defs.length = nd := ⟨_, rfl⟩
  have hlD : csD.length = nd := by rw [hD4.len, List.length_map, hndE]
  have hrD : ∀ i (h1 : i < csD.length) (h2 : i < defs.length), DefR w (fun g => g < w.heap.size) csD[i] (defs[i]).tree := fun i h1 h2 => by
   have := hD4.at_ i h1 (by rw [List.length_map]; exact h2)
   simpa using this
  rw [List.length_map, hndE] at hD1 hD3 hN ⊢
  rw [hndE] at hnd
  unfold maxLen at hD2
  have hz : (w.alloc (.cells #[.slice AD nd cD, .slice RA RN RC] 30)).heap.size = w.heap.size + 1 := by simp
  have hb0 : Below w.heap.size w ((w.alloc (.cells #[.slice AD nd cD, .slice RA RN RC] 30)).alloc (.cells #[.slice AD nd cD, .slice RA RN RC, .slice none 0 0] 140)) := ((Below.refl _ _).alloc (Nat.le_refl _) _).alloc (by simp) _
  have hm0 := Blk.new (w.alloc (.cells #[.slice AD nd cD, .slice RA RN RC] 30)) 140 #[.slice AD nd cD, .slice RA RN RC, .slice none 0 0]
  rw [hz] at hm0
  have hz2 : w.heap.size + 2 <= ((w.alloc (.cells #[.slice AD nd cD, .slice RA RN RC] 30)).alloc (.cells #[.slice AD nd cD, .slice RA RN RC, .slice none 0 0] 140)).heap.size := by simp
  have HL0 := Lib.hid (show LoopS w AD nd cD (.slice RA RN RC) (.slice none 0 0) [] _ from ⟨hb0, hz2, hm0, SetsOwn.nil _ _⟩)
  have HLD := Lib.hid hndE; have HLcD := Lib.hid hlD; have HAD := Lib.hid hD3; have HCD := Lib.hid hD5; have HRD := Lib.hid hrD; have HNN := Lib.hid hN
  clear hb0 hm0 hz2 hz hndE hlD hD3 hD5 hrD hN hD4 hnil
  go_enter Tryz.func57, Tryz.ntmps57
  go_wp2_with fail
  obtain ⟨w0, hw0⟩ : ∃ w0, (w.alloc (.cells #[.slice AD nd cD, .slice RA RN RC] 30)).alloc (.cells #[.slice AD nd cD, .slice RA RN RC, .slice none 0 0] 140) = w0 := ⟨_, rfl⟩
  rw [hw0] at HL0
  try rw [hw0]
  clear hw0
  go_loopg [12] nd (fun gk vi wr => ∃ (i : Nat) (sv : Value), vi = .int .i64 i /\ gk = nd - i /\ i <= nd /\ Hid (LoopS w AD nd cD (.slice RA RN RC) sv (setsOf defs i) wr))
  case atStart => exact ⟨0, _, rfl, rfl, Nat.zero_le _, HL0⟩
  case round =>
   clear HL0
   obtain ⟨i, sv, rfl, hgk, hi, HL⟩ := hrel
   have HGK := Lib.hid hgk; clear hgk
   have i0 : (0 : Int) <= (i : Int) := Int.natCast_nonneg _
   by_cases hlt : i < nd
   ·have i1 : (i : Int) < (nd : Int) := by omega
    have hil : i < defs.length := by rw [HLD.out]; exact hlt
    have hic : i < csD.length := by rw [HLcD.out]; exact hlt
    obtain ⟨g, o, hA⟩ := HAD.out.some (by omega)
    subst hA
    obtain ⟨hgS, hcell⟩ := HCD.out g o rfl i hic
    have hrel := HRD.out i hic hil
    have hcw : CellsAt wr g (o + i * 6) csD[i].enc := hcell.keep (fun j y hy => by rw [HL.out.below.cell (p := ⟨g, j, none⟩) hgS]; exact hy)
    have hrw : DefR wr (fun g => g < w.heap.size) csD[i] (defs[i]).tree := hrel.keep (fun g h _ => h) (fun g hg j y hy => by rw [HL.out.below.cell (p := ⟨g, j, none⟩) hg]; exact hy)
    obtain ⟨xc, hxc⟩ : ∃ xc, csD[i] = xc := ⟨_, rfl⟩
    rw [hxc] at hcw hrw
    have hsize := HL.out.size
    have hm1 := Blk.alloc HL.out.m (.cells xc.enc.toArray 73)
    have hd1 := Blk.new wr 73 xc.enc.toArray
    have hb1 := HL.out.below.alloc (by omega) (.cells xc.enc.toArray 73)
    have how := HL.out.own
    obtain ⟨us, hrow, hrr, hpw⟩ := id how
    obtain ⟨As, cs, hsv, hsc, hsm, hsn⟩ := own_form hrow
    rw [setsOf_len defs i (by omega)] at hrow hsc hsv
    subst hsv
    unfold maxLen at hsm
    have hz1 : (wr.alloc (.cells xc.enc.toArray 73)).heap.size = wr.heap.size + 1 := by simp
    have hcl := class_m (defs.map DefP.name) (setsOf defs i) (setsOf_rt defs i) (defs[i]).c (wr.alloc (.cells xc.enc.toArray 73)).drew (w.heap.size + 1) xc.val (hrw.2.keep (fun g h => by show g < _; simp [World.drew]; omega) (fun g hg j y hy => by
     show (wr.alloc _).cell? _ = _
     rw [World.cell?_alloc_past _ _ _ (World.block_lt_of_cell? wr _ hy)]; exact hy)) ⟨.slice (some ⟨g, o, none⟩) nd cD, .slice RA RN RC, .slice As i cs, hm1.drew, HNN.out.keep (fun _ h => h) (fun g' _ j y hy => by rw [hb1.drew.cell (p := ⟨g', j, none⟩) (World.block_lt_of_cell? w _ hy)]; exact hy), by rw [List.length_map, HLD.out]; exact hnd, (SetsOwn.kept how (row := none) (fun g e => by cases e) (only_drew (only_alloc (only_refl _ _) _))).reads, by rw [setsOf_len defs i (by omega), List.length_map]; omega, setsOf_rt defs i⟩
    clear hcell hrel hrw hxc
    obtain ⟨nm0, k, lo, hi, nm, A, n, c⟩ := xc
    have e0 := CellsAt.at_ hcw 0 _ rfl; have e1 := CellsAt.at_ hcw 1 _ rfl; have e2 := CellsAt.at_ hcw 2 _ rfl; have e3 := CellsAt.at_ hcw 3 _ rfl; have e4 := CellsAt.at_ hcw 4 _ rfl; have e5 := CellsAt.at_ hcw 5 _ rfl
    rw [Nat.add_zero] at e0
    have HCA := Lib.hid hcl; have HM1 := Lib.hid hm1; have HD1 := Lib.hid hd1; have HB1 := Lib.hid hb1; have HOW0 := Lib.hid how
    clear hcl hm1 hd1 hb1 hcw how HL
    obtain ⟨SETL, hSETL⟩ : ∃ SETL, meanC (defs.map DefP.name) (setsOf defs i) (defs[i]).c = SETL := ⟨_, rfl⟩
    rw [hSETL] at HCA
    have HSL := Lib.hid hSETL; clear hSETL
    go_wp2_with fail
    obtain ⟨W1, hW1⟩ : ∃ W1, wr.alloc (.cells #[.string nm0, .int .i64 k, .int .i64 lo, .int .i64 hi, .string nm, .slice A n c] 73) = W1 := ⟨_, rfl⟩
    obtain ⟨G, hG⟩ : ∃ G, wr.heap.size = G := ⟨_, rfl⟩
    have hm1 : Blk W1 (w.heap.size + 1) 140 #[.slice (some ⟨g, o, none⟩) nd cD, .slice RA RN RC, .slice As i cs] := by rw [<- hW1]; exact HM1.out
    have hd1 : Blk W1 G 73 #[.string nm0, .int .i64 k, .int .i64 lo, .int .i64 hi, .string nm, .slice A n c] := by rw [<- hW1, <- hG]; exact HD1.out
    have hb1 : Below w.heap.size w W1 := by rw [<- hW1]; exact HB1.out
    have hz1 : W1.heap.size = G + 1 := by rw [<- hW1, <- hG]; simp
    have hca : Calls Tryz.prog 92 #[.pointer (some ⟨w.heap.size + 1, 0, none⟩), .agg #[.int .i64 k, .int .i64 lo, .int .i64 hi, .string nm, .slice A n c]] W1.drew (Tells W1.drew SETL) := by rw [<- hW1]; exact HCA.out
    have how1 : SetsOwn W1 (w.heap.size + 2) (.slice As i cs) (setsOf defs i) := by rw [<- hW1]; exact SetsOwn.kept HOW0.out (row := none) (fun g e => by cases e) (only_alloc (only_refl _ _) _)
    have hvG : ∀ k, Value.ownBlock (.slice As i cs) = some k -> w.heap.size + 2 <= k /\ k < G := by
     rw [<- hG]
     obtain ⟨us, hrow, _⟩ := HOW0.out
     exact fun k e => own_below hrow k e
    have hGs : w.heap.size + 2 <= G := by rw [<- hG]; exact hsize
    rw [hW1, hG]
    have HCB := Lib.hid hca; have HOW := Lib.hid how1
    clear hca how1 HM1 HD1 HB1 HCA HOW0 hW1 hG hsize e0 e1 e2 e3 e4 e5
    refine region_x 8 (fun w' : World => w'.cell? ⟨w.heap.size + 1, 2, none⟩ = some (.slice As i cs) /\ w'.cell? ⟨G, 1, none⟩ = some (.int .i64 k) /\ w'.cell? ⟨G, 2, none⟩ = some (.int .i64 lo) /\ w'.cell? ⟨G, 3, none⟩ = some (.int .i64 hi) /\ w'.cell? ⟨G, 4, none⟩ = some (.string nm) /\ w'.cell? ⟨G, 5, none⟩ = some (.slice A n c)) (by kernel_rfl) ?_
    have hSf : ∀ U : World, Blk U (w.heap.size + 1) 140 #[.slice (some ⟨g, o, none⟩) nd cD, .slice RA RN RC, .slice As i cs] -> Blk U G 73 #[.string nm0, .int .i64 k, .int .i64 lo, .int .i64 hi, .string nm, .slice A n c] -> (U.cell? ⟨w.heap.size + 1, 2, none⟩ = some (.slice As i cs) /\ U.cell? ⟨G, 1, none⟩ = some (.int .i64 k) /\ U.cell? ⟨G, 2, none⟩ = some (.int .i64 lo) /\ U.cell? ⟨G, 3, none⟩ = some (.int .i64 hi) /\ U.cell? ⟨G, 4, none⟩ = some (.string nm) /\ U.cell? ⟨G, 5, none⟩ = some (.slice A n c)) := fun U h1 h2 => ⟨Blk.cell h1 2, Blk.cell h2 1, Blk.cell h2 2, Blk.cell h2 3, Blk.cell h2 4, Blk.cell h2 5⟩
    have hS := hSf W1.drew (Blk.drew hm1) (Blk.drew hd1)
    refine anyX_take (i := 0) (v := ?_) rfl (by kernel_rfl) (by kernel_rfl) (by kernel_rfl) (by kernel_rfl) (fun _ _ _ h => h) (Or.inl ⟨by rfl, ?_⟩) hS ?_
    rotate_left
    ·rintro w' ⟨s0, s1, s2, s3, s4, s5⟩
     go_simp
     try with_reducible rfl
    try simp only [Act.put, List.getElem_toArray, List.getElem_cons_succ, List.getElem_cons_zero, List.setIfInBounds_toArray, List.set_cons_zero, List.set_cons_succ]
    refine anyX_take (i := 1) (v := ?_) rfl (by kernel_rfl) (by kernel_rfl) (by kernel_rfl) (by kernel_rfl) (fun _ _ _ h => h) (Or.inl ⟨by rfl, ?_⟩) hS ?_
    rotate_left
    ·rintro w' ⟨s0, s1, s2, s3, s4, s5⟩
     go_simp
     try with_reducible rfl
    try simp only [Act.put, List.getElem_toArray, List.getElem_cons_succ, List.getElem_cons_zero, List.setIfInBounds_toArray, List.set_cons_zero, List.set_cons_succ]
    refine anyX_take (i := 2) (v := ?_) rfl (by kernel_rfl) (by kernel_rfl) (by kernel_rfl) (by kernel_rfl) (fun _ _ _ h => h) (Or.inl ⟨by rfl, ?_⟩) hS ?_
    rotate_left
    ·rintro w' ⟨s0, s1, s2, s3, s4, s5⟩
     go_simp
     try with_reducible rfl
    try simp only [Act.put, List.getElem_toArray, List.getElem_cons_succ, List.getElem_cons_zero, List.setIfInBounds_toArray, List.set_cons_zero, List.set_cons_succ]
    refine anyX_take (i := 3) (v := ?_) rfl (by kernel_rfl) (by kernel_rfl) (by kernel_rfl) (by kernel_rfl) (fun _ _ _ h => h) (Or.inl ⟨by rfl, ?_⟩) hS ?_
    rotate_left
    ·rintro w' ⟨s0, s1, s2, s3, s4, s5⟩
     go_simp
     try with_reducible rfl
    try simp only [Act.put, List.getElem_toArray, List.getElem_cons_succ, List.getElem_cons_zero, List.setIfInBounds_toArray, List.set_cons_zero, List.set_cons_succ]
    clear hS
    refine anyX_g (i := 4) (by kernel_rfl) (by decide) rfl (by rfl) ?_
    intro K hK
    try simp only [List.getElem_toArray, List.getElem_cons_succ, List.getElem_cons_zero]
    refine wp_enterE #[.pointer (some ⟨w.heap.size + 1, 0, none⟩), .agg #[.int .i64 k, .int .i64 lo, .int .i64 hi, .string nm, .slice A n c]] Tryz.func92 (by kernel_rfl) (by kernel_rfl) ?_ HCB.out ?_
    ·go_simp
    rintro e w3 ⟨u, rfl, hu, hb3⟩
    refine ⟨_, rfl, ?_⟩
    have hb3' : Below W1.heap.size W1 w3 := (Below.refl _ W1).drew.trans hb3
    have hm3 := Blk.below hm1 hb3' (Blk.lt hm1)
    have hd3 := Blk.below hd1 hb3' (Blk.lt hd1)
    have hu' : OwnP w3 W1.heap.size u SETL.length SETL := hu
    refine hK _ _ (hSf _ hm3 hd3) ?_
    clear hK
    try simp only [Act.put, List.getElem_toArray, List.getElem_cons_succ, List.getElem_cons_zero, List.setIfInBounds_toArray, List.set_cons_zero, List.set_cons_succ]
    obtain ⟨us, hrow, hrr, hpw⟩ := HOW.out
    rw [setsOf_len defs i (by omega)] at hrow
    obtain ⟨Au, cu, rfl, hu2, hu3, -⟩ := own_form hu
    refine anyX_g (i := 5) (by kernel_rfl) (by decide) rfl (by rfl) ?_
    intro K hK
    try simp only [List.getElem_toArray, List.getElem_cons_succ, List.getElem_cons_zero]
    go_simp
    have hm4 := Blk.alloc hm3 (.cells #[.slice Au SETL.length cu] 94)
    have hd4 := Blk.alloc hd3 (.cells #[.slice Au SETL.length cu] 94)
    refine hK _ _ (hSf _ hm4 hd4) ?_
    clear hK
    try simp only [Act.put, List.getElem_toArray, List.getElem_cons_succ, List.getElem_cons_zero, List.setIfInBounds_toArray, List.set_cons_zero, List.set_cons_succ]
    refine anyX_g (i := 6) (by kernel_rfl) (by decide) rfl (by rfl) ?_
    intro K hK
    try simp only [List.getElem_toArray, List.getElem_cons_succ, List.getElem_cons_zero]
    have hrow3 := World.ownsRow.kept hrow (only_of_below hb3' none) (Classical.em _)
    refine wp_pushK rfl (.tmp 17) (.tmp 21) 46 94 rfl 1 24 _ Tryz.underlying46 info_ranges rfl (by omega) (by omega) (w.heap.size + 2) (.slice As i cs) i us (by rfl) (hrow3.alloc _) w3.heap.size (by rfl) #[.slice Au SETL.length cu] rfl (Blk.new w3 _ _) (by simp [Value.oneCell']) (by omega) (by have := hb3'.size; simp; omega) ?_
    intro g2 cap w5 hown5 hgr5 hat5
    have hm5 := Blk.grown hm4 hgr5 (fun e => by have := hvG _ e.symm; omega)
    have hd5 := Blk.grown hd4 hgr5 (fun e => by have := hvG _ e.symm; omega)
    refine hK _ _ (hSf _ hm5 hd5) ?_
    clear hK
    try simp only [Act.put, List.getElem_toArray, List.getElem_cons_succ, List.getElem_cons_zero, List.setIfInBounds_toArray, List.set_cons_zero, List.set_cons_succ]
    refine anyX_g (i := 7) (by kernel_rfl) (by decide) rfl (by rfl) ?_
    intro K hK
    try simp only [List.getElem_toArray, List.getElem_cons_succ, List.getElem_cons_zero]
    go_simp
    refine hK _ _ (hSf _ hm5 hd5) ?_
    clear hK
    try simp only [Act.put, List.getElem_toArray, List.getElem_cons_succ, List.getElem_cons_zero, List.setIfInBounds_toArray, List.set_cons_zero, List.set_cons_succ]
    have f2 := Blk.frozen hm5 2
    have c2 := Blk.cell hm5 2
    simp only [List.getElem?_toArray, List.getElem?_cons_zero, List.getElem?_cons_succ] at c2
    have hlen := setsOf_len defs i (by omega)
    have hp := SetsOwn.push hlen hrr hpw (fun k e => by have := hvG k e; omega) (by omega) hb3' (.cells #[.slice Au SETL.length cu] 94) hgr5 hat5 hown5 hu'
    have hnx := setsOf_next defs i hil
    rw [HSL.out] at hnx
    rw [<- hnx] at hp
    have hgr : w.grownBy w5 (some (w.heap.size + 1)) := only_own (only_alloc (only_below (only_of_below hb1 _) hb3') (.cells #[.slice Au SETL.length cu] 94)) hgr5 (fun j e => by have := hvG j e; omega)
    have hgr6 := only_setCell (p := ⟨w.heap.size + 1, 2, none⟩) hgr (.inl rfl) (.slice (some ⟨g2, 0, none⟩) (i + 1) cap)
    have hs5 : w.heap.size + 2 <= w5.heap.size := by
     have h1 : w3.heap.size + 1 <= w5.heap.size := by have := hgr5.size; simpa using this
     have := hb3'.size
     omega
    have HLN := Lib.hid (show LoopS w (some ⟨g, o, none⟩) nd cD (.slice RA RN RC) (.slice (some ⟨g2, 0, none⟩) (i + 1) cap) (setsOf defs (i + 1)) (w5.setCell ⟨w.heap.size + 1, 2, none⟩ (.slice (some ⟨g2, 0, none⟩) (i + 1) cap)) from
     ⟨below_of_only hgr6 (Nat.le_succ _) (Nat.le_refl _), by simpa [World.setCell] using hs5, by have := Blk.set_ hm5 2 (.slice (some ⟨g2, 0, none⟩) (i + 1) cap); simpa using this, hp.kept (row := some (w.heap.size + 1)) (fun j e => by injection e with e; omega) (only_setCell (p := ⟨w.heap.size + 1, 2, none⟩) (only_refl w5 _) (.inl rfl) _)⟩)
    clear hp hnx hgr hgr6 hm5 hd5 hm4 hd4 hm3 hd3 hown5 hgr5 hat5 hrow3 hrow hrr hpw hu hu' hb3 hb3' HOW HCB hSf hm1 hd1 hb1
    refine anyX_last (by kernel_rfl) (by kernel_rfl) rfl rfl ?_
    try simp only [List.getElem_toArray, List.getElem_cons_succ, List.getElem_cons_zero]
    go_simp
    try apply_assumption
    go_wp2_with fail
    go_roundg (nd - (i + 1))
    case measure => have := HGK.out; omega
    case rel => exact ⟨i + 1, _, by go_num, rfl, hlt, HLN⟩
   ·have hin : i = nd := by omega
    subst hin
    have ho := HL.out.own
    obtain ⟨us, hrow, hrr, hpw⟩ := id ho
    obtain ⟨As, cs, hsv, hsc, hsm, hsn⟩ := own_form hrow
    subst hsv
    have c2 := Blk.cell HL.out.m 2
    simp only [List.getElem?_toArray, List.getElem?_cons_zero, List.getElem?_cons_succ] at c2
    have HO := Lib.hid ho; have HB := Lib.hid HL.out.below
    clear ho hrow hrr hpw HL
    go_wp2_with fail
    go_ret
    exact ⟨_, rfl, HO.out.more (Nat.le_add_right _ _), HB.out⟩
end Go.Proofs.YtfccnadbiglagaaGreat
