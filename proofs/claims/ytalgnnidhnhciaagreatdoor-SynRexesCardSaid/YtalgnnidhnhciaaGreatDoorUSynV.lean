/- Contracts of syn's reading of sets: nots. Contracts of syn's reading of sets: what several have in common. -/
import Derived.Test.YtalgnnidhnhciaaGreatDoorShort
import Derived.Test.YtalgnnidhnhciaaGreatDoorUSynN
import Derived.Test.YtalgnnidhnhciaaGreatDoorUAny
set_option linter.unusedVariables false
set_option linter.unusedSimpArgs false
set_option maxRecDepth 100000
set_option maxHeartbeats 8000000
namespace Go.Proofs.YtalgnnidhnhciaaGreatDoor
open Go Go.RowKit
attribute [local go_sem] field_sign2 field_sign3
theorem cellsAt_blk {W : World} {N o : Nat} {t : TypeId} {cs : Array Value} {l : List Value} (h : Blk W N t cs) (hl : ∀ i v, l[i]? = some v -> cs[o + i]? = some v) : CellsAt W N o l :=
 fun i v hv => (Blk.cell h (o + i)).trans (hl i v hv)
theorem trees_one {W : World} {N : Nat} {T : TypeId} {S : Nat -> Prop} {k lo hi : Int} {nm : ByteArray} {A : Option Addr} {n c : Nat} {t : Tree} (h : Blk W N T #[.int .i64 k, .int .i64 lo, .int .i64 hi, .string nm, .slice A n c])
  (ht : TreeV false W S (.agg #[.int .i64 k, .int .i64 lo, .int .i64 hi, .string nm, .slice A n c]) t) : TreesAt false W S N 0 [t] := by
  rw [TreesAt, TreesAt]
  refine ⟨TreeV.laid (k := k) (lo := lo) (hi := hi) (wt := 0) (s := nm) (A := A) (n := n) (c := c) ht (cellsAt_blk h ?_), trivial⟩
  intro i v hv
  rw [Nat.zero_add]
  rcases i with _ | _ | _ | _ | _ | i <;> simp_all [headC]
theorem trees_two {W : World} {N : Nat} {T : TypeId} {S : Nat -> Prop} {k lo hi k' lo' hi' : Int} {nm nm' : ByteArray} {A A' : Option Addr} {n c n' c' : Nat} {t t' : Tree}
  (h : Blk W N T #[.int .i64 k, .int .i64 lo, .int .i64 hi, .string nm, .slice A n c, .int .i64 k', .int .i64 lo', .int .i64 hi', .string nm', .slice A' n' c'])
  (ht : TreeV false W S (.agg #[.int .i64 k, .int .i64 lo, .int .i64 hi, .string nm, .slice A n c]) t) (ht' : TreeV false W S (.agg #[.int .i64 k', .int .i64 lo', .int .i64 hi', .string nm', .slice A' n' c']) t') : TreesAt false W S N 0 [t, t'] := by
  rw [TreesAt, TreesAt, TreesAt]
  refine ⟨TreeV.laid (k := k) (lo := lo) (hi := hi) (wt := 0) (s := nm) (A := A) (n := n) (c := c) ht (cellsAt_blk h ?_),
   TreeV.laid (k := k') (lo := lo') (hi := hi') (wt := 0) (s := nm') (A := A') (n := n') (c := c') ht' (cellsAt_blk h ?_), trivial⟩
  ·intro i v hv
   rw [Nat.zero_add]
   rcases i with _ | _ | _ | _ | _ | i <;> simp_all [headC]
  ·intro i v hv
   rcases i with _ | _ | _ | _ | _ | i <;> simp_all [headC, sz]
theorem TreeV.node (r : Bool) (W : World) (S : Nat -> Prop) (k lo hi wt : Int) (N m : Nat) (l : List Tree) (hw : r = false -> wt = 0) (hl : l.length = m) (hm : m <= 2) (hS : S N) (ht : TreesAt r W S N 0 l) :
  TreeV r W S (.agg (headC r k lo hi wt ⟨#[]⟩ (some ⟨N, 0, none⟩) m m).toArray) (.mk k lo hi wt [] l) :=
  ⟨⟨#[]⟩, some ⟨N, 0, none⟩, m, m, rfl, rfl, hw, hl, Nat.le_refl _, by unfold maxLen; omega, ⟨(fun e => by cases e), fun _ _ _ e => by cases e; rfl⟩, (fun b' o' e _ => by cases e; exact ⟨hS, ht⟩)⟩
theorem not_ok (D : List Bs) (d : Nat) (hd12 : d <= 12) (hplain : Spec false 176 D (fun F => plainR D (clsE F D d).2) (12 - d))
  (hnot : ∀ d', d = d' + 1 -> Spec false 152 D (fun F => (lvlC F D d').2) (12 - d')) (herr : ErrSpec false 152 D) :
  Spec false 152 D (fun F => (lvlC F D d).2) (12 - d) := by
  intro w b s ts df rl h hN
  have hblt := h.blt
  have h2 := h.alloc (.cells #[.int .i64 0, .int .i64 0, .int .i64 0, .string ⟨#[]⟩, .slice none 0 0] 35)
  have hN2 := hN.alloc (.cells #[.int .i64 0, .int .i64 0, .int .i64 0, .string ⟨#[]⟩, .slice none 0 0] 35)
  have c2 := h2.kind
  have hkx : kX (.ok ts) = (kd ts : Int) := rfl
  rw [hkx] at c2
  have hG2 : w.grownBy (w.alloc (.cells #[.int .i64 0, .int .i64 0, .int .i64 0, .string ⟨#[]⟩, .slice none 0 0] 35)) (some b) := only_alloc (only_refl _ _) _
  have hB2 : Blk (w.alloc (.cells #[.int .i64 0, .int .i64 0, .int .i64 0, .string ⟨#[]⟩, .slice none 0 0] 35)) w.heap.size 35 #[.int .i64 0, .int .i64 0, .int .i64 0, .string ⟨#[]⟩, .slice none 0 0] := Blk.new _ _ _
  have hz2 : (w.alloc (.cells #[.int .i64 0, .int .i64 0, .int .i64 0, .string ⟨#[]⟩, .slice none 0 0] 35)).heap.size = w.heap.size + 1 := by simp
  have HS := Lib.hid h2; have HN := Lib.hid hN2; have HG := Lib.hid hG2; have HB := Lib.hid hB2; have HZ := Lib.hid hz2
  clear h h2 hN hN2 hG2 hB2 hz2 hkx
  simp only
  by_cases k0 : kd ts = 33
  ·obtain ⟨x1, y1, hx1, hsel, hcl⟩ : ∃ (x1 : X) (y1 : Rd Tree), entX (12 - (d : Int)) ts = x1 /\ (lvlC (s.data.toList.length + 1) D d).2 ts = (y1.then_ fun c t1 => .ok (cNot c, t1)) /\
       ∀ W, St W b s x1 df rl (12 - (d : Int) + 1) -> NamesB W b df D -> Calls Tryz.prog 152 #[.pointer (some ⟨b, 0, none⟩)] W (Reads_ false W b s y1 df rl (12 - (d : Int) + 1)) := by
     rw [lvlC_2]
     cases d with
     | zero =>
       refine ⟨.error (2, ts), .error (2, ts), by simp [entX], ?_, fun W hW hNW => herr W b s _ df rl _ hW hNW⟩
       unfold notR
       rw [if_pos (by simp [k0])]; rfl
     | succ d' =>
       refine ⟨nxt ts, (nxt ts).into (lvlC (s.data.toList.length + 1) D d').2, ?_, ?_, fun W hW hNW => ?_⟩
       ·unfold entX; rw [if_neg (by omega)]
       ·unfold notR
        rw [if_pos (by simp [k0])]; rfl
       ·have e : (12 - ((d' + 1 : Nat) : Int) + 1) = 12 - (d' : Int) := by omega
        rw [e] at hW ⊢
        exact Spec.all (hnot d' rfl) herr hW hNW
   have hc := enter_st HS.out (by omega) (by omega) (by omega)
   rw [hx1] at hc
   have q : ((kd ts : Int) != 33) = false := by simp; omega
   have d0 : (0 : Int) <= 12 - (d : Int) := by omega
   have d1 : 12 - (d : Int) <= 12 := by omega
   have HCL := Lib.hid hcl
   have HC := Lib.hid hc; have HSEL := Lib.hid hsel; clear hc hsel hx1 hcl k0 hplain hnot herr
   generalize hDP : 12 - (d : Int) = dp at *
   clear hDP
   go_enter Tryz.func152, Tryz.ntmps152
   go_wp2_with fail
   refine HC.out.mono ?_
   rintro e w1 ⟨rfl, hS1, hg1⟩
   have hr1 := Blk.grown HB.out hg1 (fun e => by injection e with e; omega)
   have hcl1 := HCL.out w1 hS1 (HN.out.grown hg1)
   have hz1 : w.heap.size + 1 <= w1.heap.size := by have := hg1.size; rw [HZ.out] at this; exact this
   have HCL1 := Lib.hid hcl1; have HR1 := Lib.hid hr1; have HG1 := Lib.hid (only_trans HG.out hg1); clear hS1 hg1 hcl1 hr1
   go_wp2_with fail
   refine HCL1.out.mono ?_
   rintro e w2 ⟨v, rfl, hv, hT, hS2, hg2⟩
   obtain ⟨k, lo, hi, nm, A, n, c, rfl⟩ := hv.lit
   have hz2 : w1.heap.size <= w2.heap.size := hg2.size
   have hr2 := Blk.grown HR1.out hg2 (fun e => by injection e with e; omega)
   have HT := Lib.hid hT; have HG2 := Lib.hid (only_trans HG1.out hg2); have HR2 := Lib.hid hr2; have HS2 := Lib.hid hS2
   clear hT hS2 hg2 hr2 hv
   go_wp2_with fail
   have hS3 := (HS2.out.alloc (.cells #[.int .i64 k, .int .i64 lo, .int .i64 hi, .string nm, .slice A n c] 35)).alloc (.cells #[.int .i64 4, .int .i64 0, .int .i64 0, .string ⟨#[]⟩, .slice (some ⟨w2.heap.size, 0, none⟩) 1 1] 35)
   have hlv := leave_st hS3 (by omega) (by omega)
   have hN3 : Blk ((w2.alloc (.cells #[.int .i64 k, .int .i64 lo, .int .i64 hi, .string nm, .slice A n c] 35)).alloc (.cells #[.int .i64 4, .int .i64 0, .int .i64 0, .string ⟨#[]⟩, .slice (some ⟨w2.heap.size, 0, none⟩) 1 1] 35)) w2.heap.size 35 #[.int .i64 k, .int .i64 lo, .int .i64 hi, .string nm, .slice A n c] := Blk.alloc (Blk.new _ _ _) _
   have hb3 : Blk ((w2.alloc (.cells #[.int .i64 k, .int .i64 lo, .int .i64 hi, .string nm, .slice A n c] 35)).alloc (.cells #[.int .i64 4, .int .i64 0, .int .i64 0, .string ⟨#[]⟩, .slice (some ⟨w2.heap.size, 0, none⟩) 1 1] 35)) (w2.heap.size + 1) 35 #[.int .i64 4, .int .i64 0, .int .i64 0, .string ⟨#[]⟩, .slice (some ⟨w2.heap.size, 0, none⟩) 1 1] := by
    have := Blk.new (w2.alloc (.cells #[.int .i64 k, .int .i64 lo, .int .i64 hi, .string nm, .slice A n c] 35)) 35 #[.int .i64 4, .int .i64 0, .int .i64 0, .string ⟨#[]⟩, .slice (some ⟨w2.heap.size, 0, none⟩) 1 1]
    rwa [show (w2.alloc (.cells #[.int .i64 k, .int .i64 lo, .int .i64 hi, .string nm, .slice A n c] 35)).heap.size = w2.heap.size + 1 by simp] at this
   have hr3 := Blk.alloc (Blk.alloc HR2.out (.cells #[.int .i64 k, .int .i64 lo, .int .i64 hi, .string nm, .slice A n c] 35)) (.cells #[.int .i64 4, .int .i64 0, .int .i64 0, .string ⟨#[]⟩, .slice (some ⟨w2.heap.size, 0, none⟩) 1 1] 35)
   have HLV := Lib.hid hlv; have HB3 := Lib.hid hb3; have HR3 := Lib.hid hr3; have HN3 := Lib.hid hN3; have HG3 := Lib.hid (only_alloc (only_alloc HG2.out (.cells #[.int .i64 k, .int .i64 lo, .int .i64 hi, .string nm, .slice A n c] 35)) (.cells #[.int .i64 4, .int .i64 0, .int .i64 0, .string ⟨#[]⟩, .slice (some ⟨w2.heap.size, 0, none⟩) 1 1] 35))
   clear hlv hb3 hr3 hN3 hS3
   refine HLV.out.mono ?_
   rintro e w4 ⟨rfl, hS4, hg4⟩
   have hb4 := Blk.grown HB3.out hg4 (fun e => by injection e with e; omega)
   have hr4 := Blk.grown HR3.out hg4 (fun e => by injection e with e; omega)
   have hn4 := Blk.grown HN3.out hg4 (fun e => by injection e with e; omega)
   have v0 := Blk.cell hb4 0; have v1 := Blk.cell hb4 1; have v2 := Blk.cell hb4 2; have v3 := Blk.cell hb4 3; have v4 := Blk.cell hb4 4
   have r0 := Blk.cell hr4 0; have r1 := Blk.cell hr4 1; have r2 := Blk.cell hr4 2; have r3 := Blk.cell hr4 3; have r4 := Blk.cell hr4 4
   simp only [List.getElem?_toArray, List.getElem?_cons_zero, List.getElem?_cons_succ] at r0 r1 r2 r3 r4 v0 v1 v2 v3 v4
   have fr := fun i => Blk.frozen hr4 i
   have e1 : dp + 1 - 1 = dp := by omega
   rw [e1] at hS4
   have hyst : (y1.then_ fun c t1 => .ok (cNot c, t1)).st = y1.st := by cases y1 <;> rfl
   have hfin := reads_five (y := y1.then_ fun c t1 => .ok (cNot c, t1)) (k := 4) (lo := 0) (hi := 0) (nm := ⟨#[]⟩) (A := some ⟨w2.heap.size, 0, none⟩) (n := 1) (c := 1) hblt (by rw [hyst]; exact hS4) (only_trans HG3.out hg4) (fun t ts' e => by
    obtain ⟨c', hy1, rfl⟩ : ∃ c', y1 = .ok (c', ts') /\ t = cNot c' := by
     cases y1 with
     | error z => cases e
     | ok p => obtain ⟨c', t1⟩ := p; simp only [then_ok] at e; cases e; exact ⟨c', rfl, rfl⟩
    have hT4 : TreeV false w4 (fun g => w.heap.size < g) (.agg #[.int .i64 k, .int .i64 lo, .int .i64 hi, .string nm, .slice A n c]) c' :=
     (HT.out c' ts' hy1).keep (fun g hg => by omega) (fun g hg i x hx => hg4.cell (by
      have hlt := World.block_lt_of_cell? w2 _ hx
      rw [World.cell?_alloc_past _ _ _ (by simp; exact Nat.lt_succ_of_lt hlt), World.cell?_alloc_past _ _ _ hlt]; exact hx) (fun e => by injection e with e; have e' : g = b := e; omega))
    exact TreeV.node false w4 _ 4 0 0 0 w2.heap.size 1 [c'] (fun _ => rfl) rfl (by omega) (by omega) (trees_one hn4 hT4))
   have HFN := Lib.hid hfin; clear hfin hb4 hr4 hn4 hS4 hg4 e1 hyst
   go_wp2_with fail
   refine bodyPost_ret (v := .agg #[.int .i64 4, .int .i64 0, .int .i64 0, .string ⟨#[]⟩, .slice (some ⟨w2.heap.size, 0, none⟩) 1 1]) (by simp [results, Tryz.results152, go_sem, r0, r1, r2, r3, r4]) rfl ?_
   have := HFN.out
   rw [<- HSEL.out] at this
   exact this
  ·have q : ((kd ts : Int) != 33) = true := by simp; omega
   have hsel : (lvlC (s.data.toList.length + 1) D d).2 ts = plainR D (clsE (s.data.toList.length + 1) D d).2 ts := by
    rw [lvlC_2]; unfold notR; rw [if_neg (by simp [k0])]
   have hc := hplain _ b s ts df rl HS.out HN.out
   simp only at hc
   rw [<- hsel] at hc
   have HC := Lib.hid hc; clear hc hsel k0 hplain hnot herr
   generalize (lvlC (s.data.toList.length + 1) D d).2 ts = y1 at *
   generalize hDP : 12 - (d : Int) = dp at *
   clear hDP
   go_enter Tryz.func152, Tryz.ntmps152
   go_wp2_with fail
   refine HC.out.mono ?_
   rintro e w1 ⟨v, rfl, hv, hT, hS1, hg1⟩
   obtain ⟨k, lo, hi, nm, A, n, c, rfl⟩ := hv.lit
   have hr1 := Blk.grown HB.out hg1 (fun e => by injection e with e; omega)
   have r0 := Blk.cell hr1 0; have r1 := Blk.cell hr1 1; have r2 := Blk.cell hr1 2; have r3 := Blk.cell hr1 3; have r4 := Blk.cell hr1 4
   simp only [List.getElem?_toArray, List.getElem?_cons_zero, List.getElem?_cons_succ] at r0 r1 r2 r3 r4
   have fr := fun i => Blk.frozen hr1 i
   have hfin := reads_five (y := y1) hblt hS1 (only_trans HG.out hg1) (fun t ts' e => (hT t ts' e).keep (fun g hg => by rw [HZ.out] at hg; exact hg) (fun _ _ _ _ hx => hx))
   have HFN := Lib.hid hfin; clear hfin hr1 hS1 hg1 hT hv
   go_wp2_with fail
   refine bodyPost_ret (v := .agg #[.int .i64 k, .int .i64 lo, .int .i64 hi, .string nm, .slice A n c]) (by simp [results, Tryz.results152, go_sem, r0, r1, r2, r3, r4]) rfl ?_
   exact HFN.out
end Go.Proofs.YtalgnnidhnhciaaGreatDoor
namespace Go.Proofs.YtalgnnidhnhciaaGreatDoor
open Go Go.RowKit
attribute [local go_sem] field_sign2 field_sign3
def NamesW (B : Nat) (w : World) (b : Nat) (df : Value) (D : List Bs) : Prop := Names w (fun g => g ≠ b /\ g < B) df D /\ D.length <= 12
theorem NamesB.low {w : World} {b : Nat} {df : Value} {D : List Bs} (h : NamesB w b df D) : NamesW w.heap.size w b df D := by
 obtain ⟨⟨A, c, e1, e2, e3, e4, e5⟩, hl⟩ := h
 exact ⟨⟨A, c, e1, e2, e3, e4, fun i hi => by
  obtain ⟨g, o, a1, a2, a3, a4⟩ := e5 i hi
  exact ⟨g, o, a1, ⟨a2, a3⟩, a3, a4⟩⟩, hl⟩
theorem NamesW.names {B : Nat} {w : World} {b : Nat} {df : Value} {D : List Bs} (h : NamesW B w b df D) : NamesB w b df D := ⟨h.1.keep (fun _ hg => hg.1) (fun _ _ _ _ hx => hx), h.2⟩
theorem NamesW.keep {B : Nat} {w w' : World} {b : Nat} {df : Value} {D : List Bs} (h : NamesW B w b df D) (hk : ∀ g, g ≠ b -> g < B -> ∀ i y, w.cell? ⟨g, i, none⟩ = some y -> w'.cell? ⟨g, i, none⟩ = some y) : NamesW B w' b df D :=
 ⟨h.1.keep (fun _ hg => hg) (fun g hg => hk g hg.1 hg.2), h.2⟩
theorem NamesW.grown {B : Nat} {w w' : World} {b : Nat} {df : Value} {D : List Bs} (h : NamesW B w b df D) (hg : w.grownBy w' (some b)) : NamesW B w' b df D := h.keep fun g hne _ i y hy => hg.cell hy (fun e => hne (by injection e))
theorem NamesW.alloc {B : Nat} {w : World} {b : Nat} {df : Value} {D : List Bs} (h : NamesW B w b df D) (o : Obj) : NamesW B (w.alloc o) b df D := h.keep fun g _ _ i y hy => by rw [World.cell?_alloc_past o _ _ (World.block_lt_of_cell? w _ hy)]; exact hy
theorem NamesW.five {B H : Nat} {w : World} {b : Nat} {df : Value} {D : List Bs} {a1 a2 a3 a4 a5 : Value} (h : NamesW B w b df D) (hH : B <= H) : NamesW B (fiveAt w H a1 a2 a3 a4 a5) b df D := h.keep fun g _ hlt i y hy => by rw [five_cell g i (by omega)]; exact hy
structure Loops (w : World) (b H3 : Nat) (s : ByteArray) (df rl : Value) (dp : Int) (D : List Bs) (y : Rd Tree) (k lo hi : Int) (nm : ByteArray) (A : Option Addr) (n c : Nat) (gk : Nat) (wr : World) : Prop where
 res : Blk wr w.heap.size 35 #[.int .i64 0, .int .i64 0, .int .i64 0, .string ⟨#[]⟩, .slice none 0 0]
 var : Blk wr H3 35 #[.int .i64 k, .int .i64 lo, .int .i64 hi, .string nm, .slice A n c]
 st : St wr b s y.st df rl dp
 gr : w.grownBy wr (some b)
 nb : NamesW w.heap.size wr b df D
 tr : ∀ t ts, y = .ok (t, ts) -> TreeV false wr (fun g => w.heap.size < g /\ g ≠ H3 /\ g ≠ b) (.agg #[.int .i64 k, .int .i64 lo, .int .i64 hi, .string nm, .slice A n c]) t /\ ts.length <= gk
theorem Loops.step {w : World} {b H3 : Nat} {s : ByteArray} {df rl : Value} {dp : Int} {D : List Bs} {c0 : Tree} {ts : Toks} {k lo hi : Int} {nm : ByteArray} {A : Option Addr} {n c gk : Nat} {wr w2 : World} {x1 : X}
  (h : Loops w b H3 s df rl dp D (.ok (c0, ts)) k lo hi nm A n c gk wr) (hS : St w2 b s x1 df rl dp) (hg : wr.grownBy w2 (some b)) (hb : b < w.heap.size) (hH : w.heap.size < H3) :
  Blk w2 w.heap.size 35 #[.int .i64 0, .int .i64 0, .int .i64 0, .string ⟨#[]⟩, .slice none 0 0] /\ Blk w2 H3 35 #[.int .i64 k, .int .i64 lo, .int .i64 hi, .string nm, .slice A n c] /\
   w.grownBy w2 (some b) /\ NamesW w.heap.size w2 b df D /\ TreeV false w2 (fun g => w.heap.size < g /\ g ≠ H3 /\ g ≠ b) (.agg #[.int .i64 k, .int .i64 lo, .int .i64 hi, .string nm, .slice A n c]) c0 :=
  ⟨Blk.grown h.res hg (fun e => by injection e with e; omega), Blk.grown h.var hg (fun e => by injection e with e; omega), only_trans h.gr hg, h.nb.grown hg,
   (h.tr c0 ts rfl).1.keep (fun _ hg => hg) (fun g hS i x hx => hg.cell hx (fun e => by injection e with e; exact hS.2.2 e))⟩
theorem Loops.two {w : World} {b H3 : Nat} {s : ByteArray} {df rl : Value} {dp : Int} {D : List Bs} {c0 : Tree} {k lo hi k' lo' hi' : Int} {nm nm' : ByteArray} {A A' : Option Addr} {n c n' c' gk : Nat} {w2 w3 : World} {y1 : Rd Tree} {kk : Nat}
  (q : Blk w2 w.heap.size 35 #[.int .i64 0, .int .i64 0, .int .i64 0, .string ⟨#[]⟩, .slice none 0 0] /\ Blk w2 H3 35 #[.int .i64 k, .int .i64 lo, .int .i64 hi, .string nm, .slice A n c] /\
   w.grownBy w2 (some b) /\ NamesW w.heap.size w2 b df D /\ TreeV false w2 (fun g => w.heap.size < g /\ g ≠ H3 /\ g ≠ b) (.agg #[.int .i64 k, .int .i64 lo, .int .i64 hi, .string nm, .slice A n c]) c0)
  (hb : b < w.heap.size) (hH : w.heap.size < H3) (hz : H3 < w2.heap.size)
  (hT : ∀ t ts, y1 = .ok (t, ts) -> TreeV false w3 (fun g => w2.heap.size <= g) (.agg #[.int .i64 k', .int .i64 lo', .int .i64 hi', .string nm', .slice A' n' c']) t) (hS : St w3 b s y1.st df rl dp) (hg : w2.grownBy w3 (some b))
  (hl : ∀ t ts, y1 = .ok (t, ts) -> ts.length <= gk) :
  Loops w b H3 s df rl dp D (y1.then_ fun d t1 => .ok (cTwo kk c0 d, t1)) kk 0 0 ⟨#[]⟩ (some ⟨w3.heap.size, 0, none⟩) 2 2 gk
   (fiveAt (w3.alloc (.cells #[.int .i64 k, .int .i64 lo, .int .i64 hi, .string nm, .slice A n c, .int .i64 k', .int .i64 lo', .int .i64 hi', .string nm', .slice A' n' c'] 35)) H3 (.int .i64 kk) (.int .i64 0) (.int .i64 0) (.string ⟨#[]⟩) (.slice (some ⟨w3.heap.size, 0, none⟩) 2 2)) := by
  obtain ⟨q1, q2, q3, q4, q5⟩ := q
  have hz3 : w2.heap.size <= w3.heap.size := hg.size
  have hst : (y1.then_ fun d t1 => (.ok (cTwo kk c0 d, t1) : Rd Tree)).st = y1.st := by cases y1 <;> rfl
  have e1 : ∀ g, g ≠ b -> ∀ i x, w2.cell? ⟨g, i, none⟩ = some x -> w3.cell? ⟨g, i, none⟩ = some x := fun g hne i x hx => hg.cell hx (fun e => by injection e with e; exact hne e)
  have e2 : ∀ (o : Obj) g i x, w3.cell? ⟨g, i, none⟩ = some x -> (w3.alloc o).cell? ⟨g, i, none⟩ = some x := fun o g i x hx => by rw [World.cell?_alloc_past _ _ _ (World.block_lt_of_cell? w3 _ hx)]; exact hx
  refine ⟨?_, ?_, ?_, ?_, ?_, ?_⟩
  ·exact Blk.five_far (Blk.alloc (Blk.grown q1 hg (fun e => by injection e with e; omega)) _) (by omega)
  ·exact Blk.five (Blk.alloc (Blk.grown q2 hg (fun e => by injection e with e; omega)) _)
  ·rw [hst]
   exact (hS.alloc _).five (by omega)
  ·exact only_five (only_alloc (only_trans q3 hg) _) (by omega)
  ·exact ((q4.grown hg).alloc _).five (by omega)
  ·intro t ts' e
   obtain ⟨d, hy, rfl⟩ : ∃ d, y1 = .ok (d, ts') /\ t = cTwo kk c0 d := by
    cases y1 with
    | error z => cases e
    | ok p => obtain ⟨d, t1⟩ := p; simp only [then_ok] at e; cases e; exact ⟨d, rfl, rfl⟩
   refine ⟨?_, hl d ts' hy⟩
   have hN : Blk (w3.alloc (.cells #[.int .i64 k, .int .i64 lo, .int .i64 hi, .string nm, .slice A n c, .int .i64 k', .int .i64 lo', .int .i64 hi', .string nm', .slice A' n' c'] 35)) w3.heap.size 35 #[.int .i64 k, .int .i64 lo, .int .i64 hi, .string nm, .slice A n c, .int .i64 k', .int .i64 lo', .int .i64 hi', .string nm', .slice A' n' c'] := Blk.new _ _ _
   have t1 : TreeV false (w3.alloc (.cells #[.int .i64 k, .int .i64 lo, .int .i64 hi, .string nm, .slice A n c, .int .i64 k', .int .i64 lo', .int .i64 hi', .string nm', .slice A' n' c'] 35)) (fun g => w.heap.size < g /\ g ≠ H3 /\ g ≠ b) (.agg #[.int .i64 k, .int .i64 lo, .int .i64 hi, .string nm, .slice A n c]) c0 :=
    q5.keep (fun _ h => h) (fun g hS i x hx => e2 _ g i x (e1 g hS.2.2 i x hx))
   have t2 : TreeV false (w3.alloc (.cells #[.int .i64 k, .int .i64 lo, .int .i64 hi, .string nm, .slice A n c, .int .i64 k', .int .i64 lo', .int .i64 hi', .string nm', .slice A' n' c'] 35)) (fun g => w.heap.size < g /\ g ≠ H3 /\ g ≠ b) (.agg #[.int .i64 k', .int .i64 lo', .int .i64 hi', .string nm', .slice A' n' c']) d :=
    (hT d ts' hy).keep (fun g hS => ⟨by omega, by omega, by omega⟩) (fun g hS i x hx => e2 _ g i x hx)
   have t3 := TreeV.node false _ (fun g => w.heap.size < g /\ g ≠ H3 /\ g ≠ b) kk 0 0 0 w3.heap.size 2 [c0, d] (fun _ => rfl) rfl (by omega) ⟨by omega, by omega, by omega⟩ (trees_two hN t1 t2)
   exact TreeV.five t3 (fun _ h => h) (fun g hS => hS.2.1)
def AnySpec (okb r : Bool) (f : Nat) (D : List Bs) (nt : Toks -> Rd Tree) (b : Nat) (s : ByteArray) (df rl : Value) (dp : Int) : Prop :=
 ∀ (w : World) (x : X), (okb = true \/ ∃ er, x = .error er) -> St w b s x df rl dp -> NamesB w b df D -> Calls Tryz.prog f #[.pointer (some ⟨b, 0, none⟩)] w (Reads_ r w b s (x.into nt) df rl dp)
theorem common_ok (okb : Bool) (D : List Bs) (dp : Int) (nt : Toks -> Rd Tree) (w : World) (b : Nat) (s : ByteArray) (x0 : X) (df rl : Value) (h : St w b s x0 df rl dp) (hN : NamesB w b df D)
  (hx0 : okb = true \/ ∃ er, x0 = .error er)
  (hnt : AnySpec okb false 152 D nt b s df rl dp) (hle : ∀ n ts, ts.length <= n -> Le n (nt ts)) :
  Calls Tryz.prog 125 #[.pointer (some ⟨b, 0, none⟩)] w (Reads_ false w b s (x0.into (bothR (s.data.toList.length + 1) nt)) df rl dp) := by
  have hblt := h.blt
  have hlen : ∀ ts, x0 = .ok ts -> ts.length <= s.data.toList.length + 1 := fun ts e => by subst e; exact h.len_ok
  obtain ⟨F, hF⟩ : ∃ F, s.data.toList.length + 1 = F := ⟨_, rfl⟩
  rw [hF] at hlen ⊢
  have h2 := h.alloc (.cells #[.int .i64 0, .int .i64 0, .int .i64 0, .string ⟨#[]⟩, .slice none 0 0] 35)
  have hN2 := hN.low.alloc (.cells #[.int .i64 0, .int .i64 0, .int .i64 0, .string ⟨#[]⟩, .slice none 0 0] 35)
  have hB2 : Blk (w.alloc (.cells #[.int .i64 0, .int .i64 0, .int .i64 0, .string ⟨#[]⟩, .slice none 0 0] 35)) w.heap.size 35 #[.int .i64 0, .int .i64 0, .int .i64 0, .string ⟨#[]⟩, .slice none 0 0] := Blk.new _ _ _
  have hz2 : (w.alloc (.cells #[.int .i64 0, .int .i64 0, .int .i64 0, .string ⟨#[]⟩, .slice none 0 0] 35)).heap.size = w.heap.size + 1 := by simp
  have hc := hnt _ x0 hx0 h2 hN2.names
  have htot : x0.into (bothR F nt) = (x0.into nt).then_ fun c ts => bothLoop nt F c ts := by cases x0 <;> rfl
  obtain ⟨TOT, hTOT⟩ : ∃ TOT, x0.into (bothR F nt) = TOT := ⟨_, rfl⟩
  rw [hTOT] at htot ⊢
  obtain ⟨y1, hy1⟩ : ∃ y1, x0.into nt = y1 := ⟨_, rfl⟩
  have hle1 : Le F y1 := by
   rw [<- hy1]
   cases x0 with
   | error e => exact Le.err F e
   | ok ts => exact hle F ts (hlen ts rfl)
  have hok1 : okb = true \/ ∃ er, y1 = .error er := by
   rcases hx0 with h | ⟨er, rfl⟩
   ·exact .inl h
   ·exact .inr ⟨er, hy1.symm⟩
  rw [hy1] at hc htot
  have HOK := Lib.hid hok1
  have HC := Lib.hid hc; have HT := Lib.hid htot; have HLE := Lib.hid hle1; have HN := Lib.hid hN2; have HB := Lib.hid hB2; have HZ := Lib.hid hz2; have HNT := Lib.hid hnt; have HL := Lib.hid hle
  clear hx0 hok1 hc htot hle1 hN2 hB2 hz2 hnt hle h h2 hN hlen hF hTOT hy1
  go_enter Tryz.func125, Tryz.ntmps125
  go_wp2_with fail
  refine HC.out.mono ?_
  rintro e w1 ⟨v, rfl, hv, hT, hS1, hg1⟩
  obtain ⟨k9, lo9, hi9, nm9, A9, n9, c9, rfl⟩ := hv.lit
  have hz1 : w.heap.size < w1.heap.size := by have := hg1.size; rw [HZ.out] at this; omega
  have hL0 : Loops w b w1.heap.size s df rl dp D y1 k9 lo9 hi9 nm9 A9 n9 c9 F (w1.alloc (.cells #[.int .i64 k9, .int .i64 lo9, .int .i64 hi9, .string nm9, .slice A9 n9 c9] 35)) := by
   refine ⟨Blk.alloc (Blk.grown HB.out hg1 (fun e => by injection e with e; omega)) _, Blk.new _ _ _, hS1.alloc _, only_alloc (only_trans (only_alloc (only_refl _ _) _) hg1) _, (HN.out.grown hg1).alloc _, fun t ts e => ⟨?_, HLE.out t ts e⟩⟩
   exact (hT t ts e).bound.keep (fun g hg => by
    have h1 := hg.1
    rw [HZ.out] at h1
    exact ⟨by omega, by have := hg.2; omega, by omega⟩) (fun g _ i x hx => by rw [World.cell?_alloc_past _ _ _ (World.block_lt_of_cell? w1 _ hx)]; exact hx)
  have HL0 := Lib.hid hL0
  clear hL0 hT hS1 hg1 hv
  go_wp2_with fail
  generalize w1.alloc (.cells #[.int .i64 k9, .int .i64 lo9, .int .i64 hi9, .string nm9, .slice A9 n9 c9] 35) = wA at *
  generalize w1.heap.size = H3 at *
  go_loopg [6] F (fun gk v6 wr => ∃ (y : Rd Tree) (k lo hi : Int) (nm : ByteArray) (A : Option Addr) (n c : Nat), Hid (Loops w b H3 s df rl dp D y k lo hi nm A n c gk wr) /\ Hid (TOT = y.then_ fun c ts => bothLoop nt gk c ts) /\ Hid (okb = true \/ ∃ er, y = .error er))
  case atStart => exact ⟨y1, k9, lo9, hi9, nm9, A9, n9, c9, HL0, HT, HOK⟩
  case round =>
   clear HL0 HT HB HN HC HLE HOK
   obtain ⟨y, k, lo, hi, nm, A, n, c, HLo, HTo, HOo⟩ := hrel
   have c2 := HLo.out.st.kind
   by_cases h38 : kX y.st = 38
   ·obtain ⟨c0, ts, rfl⟩ : ∃ c0 ts, y = .ok (c0, ts) := by
     cases y with
     | ok p => exact ⟨p.1, p.2, rfl⟩
     | error e => simp [Rd.st, kX] at h38
    have hk : kd ts = 38 := Int.ofNat.inj h38
    have hokt : okb = true := by
     rcases HOo.out with h | ⟨er, e⟩
     ·exact h
     ·cases e
    have q : (kX (Rd.st (.ok (c0, ts) : Rd Tree)) == 38) = true := by simpa using h38
    have hlen := (HLo.out.tr c0 ts rfl).2
    have hts : 0 < ts.length := by
     cases ts with
     | nil => simp [kd, hd] at hk
     | cons a r => simp
    obtain ⟨gk', rfl⟩ : ∃ gk', gk = gk' + 1 := ⟨gk - 1, by omega⟩
    have hst := step_st (ts := ts) HLo.out.st (by omega)
    have htot : TOT = ((nxt ts).into nt).then_ fun d t1 => bothLoop nt gk' (cTwo 6 c0 d) t1 := by
     rw [HTo.out, then_ok, bothLoop, if_pos (by simp [hk])]
    have HST := Lib.hid hst; have HTT := Lib.hid htot; have HK := Lib.hid hk
    have hll : ∀ t t1, (nxt ts).into nt = .ok (t, t1) -> t1.length <= gk' := fun t t1 e => by
     have : Le gk' ((nxt ts).into nt) := by
      cases hn : nxt ts with
      | error z => exact Le.err _ z
      | ok t2 => exact HL.out gk' t2 (by have := nxt_lt (by omega : kd ts ≠ 256) hn; omega)
     exact this t t1 e
    have HLL := Lib.hid hll
    clear hst htot hk h38 hll hlen hts
    go_wp2_with fail
    refine HST.out.mono ?_
    rintro e w2 ⟨rfl, hS2, hg2⟩
    have hq := HLo.out.step hS2 hg2 hblt hz1
    have hzz : H3 < w2.heap.size := Blk.lt hq.2.1
    have hnc := HNT.out w2.drew (nxt ts) (.inl hokt) hS2.drew (show NamesB w2.drew b df D from hq.2.2.2.1.names)
    have HQ := Lib.hid hq; have HNC := Lib.hid hnc; have HS2 := Lib.hid hS2
    have v0 := Blk.cell hq.2.1 0; have v1 := Blk.cell hq.2.1 1; have v2 := Blk.cell hq.2.1 2; have v3 := Blk.cell hq.2.1 3; have v4 := Blk.cell hq.2.1 4
    simp only [List.getElem?_toArray, List.getElem?_cons_zero, List.getElem?_cons_succ] at v0 v1 v2 v3 v4
    clear hq hnc hS2 hg2 HST
    go_wp2_with fail
    refine region_x 5 (fun w' : World => w'.cell? ⟨H3, 0, none⟩ = some (.int .i64 k) /\ w'.cell? ⟨H3, 1, none⟩ = some (.int .i64 lo) /\ w'.cell? ⟨H3, 2, none⟩ = some (.int .i64 hi) /\ w'.cell? ⟨H3, 3, none⟩ = some (.string nm) /\ w'.cell? ⟨H3, 4, none⟩ = some (.slice A n c)) (by kernel_rfl) ?_
    have hS : w2.drew.cell? ⟨H3, 0, none⟩ = some (.int .i64 k) /\ w2.drew.cell? ⟨H3, 1, none⟩ = some (.int .i64 lo) /\ w2.drew.cell? ⟨H3, 2, none⟩ = some (.int .i64 hi) /\ w2.drew.cell? ⟨H3, 3, none⟩ = some (.string nm) /\ w2.drew.cell? ⟨H3, 4, none⟩ = some (.slice A n c) := ⟨v0, v1, v2, v3, v4⟩
    clear v0 v1 v2 v3 v4
    refine tkx (i := 0) (v := ?_) hS ?_ ?_
    rotate_left
    ·rintro w' ⟨s0, s1, s2, s3, s4⟩
     go_simp
     try with_reducible rfl
    try simp only [Act.put, zq1, zq2, zq3, zq4, zq5, zq6]
    refine tkx (i := 1) (v := ?_) hS ?_ ?_
    rotate_left
    ·rintro w' ⟨s0, s1, s2, s3, s4⟩
     go_simp
     try with_reducible rfl
    try simp only [Act.put, zq1, zq2, zq3, zq4, zq5, zq6]
    refine anyX_g (i := 2) (by kernel_rfl) (by decide) rfl (by rfl) ?_
    intro K hK
    try simp only [zq1, zq2, zq3]
    refine wp_enterE #[.pointer (some ⟨b, 0, none⟩)] Tryz.func152 (by kernel_rfl) (by kernel_rfl) ?_ HNC.out ?_
    ·go_simp
    rintro e w3 ⟨v, rfl, hv, hT, hS3, hg3⟩
    obtain ⟨k', lo', hi', nm', A', n', c', rfl⟩ := hv.lit
    refine ⟨_, rfl, ?_⟩
    have hg3' : w2.grownBy w3 (some b) := only_trans (only_drew (only_refl w2 (some b))) hg3
    have hLn := Loops.two (kk := 6) HQ.out hblt hz1 hzz hT hS3 hg3' HLL.out
    have hv3 := Blk.grown HQ.out.2.1 hg3' (fun e => by injection e with e; omega)
    have hSw : (fun w' : World => w'.cell? ⟨H3, 0, none⟩ = some (.int .i64 k) /\ w'.cell? ⟨H3, 1, none⟩ = some (.int .i64 lo) /\ w'.cell? ⟨H3, 2, none⟩ = some (.int .i64 hi) /\ w'.cell? ⟨H3, 3, none⟩ = some (.string nm) /\ w'.cell? ⟨H3, 4, none⟩ = some (.slice A n c)) w3 := by
     have v0 := Blk.cell hv3 0; have v1 := Blk.cell hv3 1; have v2 := Blk.cell hv3 2; have v3 := Blk.cell hv3 3; have v4 := Blk.cell hv3 4
     simp only [List.getElem?_toArray, List.getElem?_cons_zero, List.getElem?_cons_succ] at v0 v1 v2 v3 v4
     exact ⟨v0, v1, v2, v3, v4⟩
    refine hK _ _ hSw ?_
    clear hK hS
    have HLN := Lib.hid hLn; have HV3 := Lib.hid hv3
    clear hLn hv hT hS3 hg3 hg3' hv3
    try simp only [Act.put, zq1, zq2, zq3, zq4, zq5, zq6]
    refine anyX_g (i := 3) (by kernel_rfl) (by decide) rfl (by rfl) ?_
    intro K hK
    try simp only [zq1, zq2, zq3]
    go_simp
    have hva := Blk.alloc HV3.out (.cells #[.int .i64 k, .int .i64 lo, .int .i64 hi, .string nm, .slice A n c, .int .i64 k', .int .i64 lo', .int .i64 hi', .string nm', .slice A' n' c'] 35)
    have hSa : (fun w' : World => w'.cell? ⟨H3, 0, none⟩ = some (.int .i64 k) /\ w'.cell? ⟨H3, 1, none⟩ = some (.int .i64 lo) /\ w'.cell? ⟨H3, 2, none⟩ = some (.int .i64 hi) /\ w'.cell? ⟨H3, 3, none⟩ = some (.string nm) /\ w'.cell? ⟨H3, 4, none⟩ = some (.slice A n c)) (w3.alloc (.cells #[.int .i64 k, .int .i64 lo, .int .i64 hi, .string nm, .slice A n c, .int .i64 k', .int .i64 lo', .int .i64 hi', .string nm', .slice A' n' c'] 35)) := by
     have v0 := Blk.cell hva 0; have v1 := Blk.cell hva 1; have v2 := Blk.cell hva 2; have v3 := Blk.cell hva 3; have v4 := Blk.cell hva 4
     simp only [List.getElem?_toArray, List.getElem?_cons_zero, List.getElem?_cons_succ] at v0 v1 v2 v3 v4
     exact ⟨v0, v1, v2, v3, v4⟩
    refine hK _ _ hSa ?_
    clear hK hSw
    try simp only [Act.put, zq1, zq2, zq3, zq4, zq5, zq6]
    refine anyX_g (i := 4) (by kernel_rfl) (by decide) rfl (by rfl) ?_
    intro K hK
    try simp only [zq1, zq2, zq3]
    go_simp
    refine hK _ _ hSa ?_
    clear hK
    try simp only [Act.put, zq1, zq2, zq3, zq4, zq5, zq6]
    refine anyX_last (by kernel_rfl) (by kernel_rfl) rfl rfl ?_
    try simp only [zq1, zq2, zq3]
    obtain ⟨v0, v1, v2, v3, v4⟩ := hSa
    have fv := fun i => Blk.frozen hva i
    clear hva
    go_simp
    apply_assumption
    go_roundg gk'
    case measure => omega
    case rel => exact ⟨_, _, _, _, _, _, _, _, HLN, Lib.hid (by
     rw [HTT.out]
     cases (nxt ts).into nt with
     | error z => rfl
     | ok p => rfl), Lib.hid (.inl hokt)⟩
   ·have q : (kX y.st == 38) = false := by simpa using h38
    have htot : TOT = y := by
     rw [HTo.out]
     cases y with
     | error e => rfl
     | ok p =>
       obtain ⟨c0, ts⟩ := p
       have hk : kd ts ≠ 38 := fun e => h38 (by simp [Rd.st, kX, e])
       rw [then_ok]
       cases gk with
       | zero => rfl
       | succ g => rw [bothLoop, if_neg (by simp [hk])]
    have HTT := Lib.hid htot; clear htot h38
    have r0 := Blk.cell HLo.out.res 0; have r1 := Blk.cell HLo.out.res 1; have r2 := Blk.cell HLo.out.res 2; have r3 := Blk.cell HLo.out.res 3; have r4 := Blk.cell HLo.out.res 4
    have v0 := Blk.cell HLo.out.var 0; have v1 := Blk.cell HLo.out.var 1; have v2 := Blk.cell HLo.out.var 2; have v3 := Blk.cell HLo.out.var 3; have v4 := Blk.cell HLo.out.var 4
    simp only [List.getElem?_toArray, List.getElem?_cons_zero, List.getElem?_cons_succ] at r0 r1 r2 r3 r4 v0 v1 v2 v3 v4
    have fr := fun i => Blk.frozen HLo.out.res i
    have hfin := reads_five (y := y) hblt HLo.out.st HLo.out.gr (fun t ts e => (HLo.out.tr t ts e).1.keep (fun _ hg => hg.1) (fun _ _ _ _ hx => hx))
    have HFN := Lib.hid hfin; clear hfin
    go_wp2_with fail
    refine bodyPost_ret (v := .agg #[.int .i64 k, .int .i64 lo, .int .i64 hi, .string nm, .slice A n c]) (by simp [results, Tryz.results125, go_sem, r0, r1, r2, r3, r4]) rfl ?_
    have := HFN.out
    rw [<- HTT.out] at this
    exact this
end Go.Proofs.YtalgnnidhnhciaaGreatDoor
