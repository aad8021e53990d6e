/- Contracts of syn's reader: the next sign, a step, a fault, a sign taken, brackets entered and left: what they leave in the reader's cells. Contracts of syn's reader: a step, a sign taken, brackets entered; the rows of signs that its cells stand for. Contracts of syn's reader, by the signs that are left: a step, a fault, a sign taken, brackets entered and left. Contracts of syn's reading of sets: what stands by itself. Contracts of syn's reading of sets: a range, what stands by itself. Plain mathematics: reading never leaves more signs than there were; a text has at most one sign more than bytes. Contracts of syn's reading of sets: where there is a fault already; what stands by itself. Contracts of syn's reading of sets: nots. Contracts of syn's reading of sets: what several have in common. Contracts of syn's reader: cells laid one behind the other; the text's end. Contracts of syn's reading of patterns: what is shared; where a part begins; a part by itself. Rows of sets with names, and of rules, that the reader gathers. Contract of syn.Parse: what the plain mathematics says. -/
import Derived.Test.YtfccnadbiglagaaGreatVSynA
import Derived.Deep.RegionHeld3
import Derived.Lib.IndexBytes
import Derived.Test.YtfccnadbiglagaaGreatVPlA
import Derived.Test.YtfccnadbiglagaaGreatVSynWb
import Derived.Test.YtfccnadbiglagaaGreatVAny
import Derived.Test.YtfccnadbiglagaaGreatVBlk
import Derived.BigRegion
set_option linter.unusedVariables false
set_option linter.unusedSimpArgs false
namespace Go.Proofs.YtfccnadbiglagaaGreat
open Go Go.RowKit
theorem five_keep (W : World) (b H : Nat) (hne : b ≠ H) (o : Nat) (i j k l m : Nat) (a1 a2 a3 a4 a5 : Value) :
  (((((W.setCell ⟨H, i, none⟩ a1).setCell ⟨H, j, none⟩ a2).setCell ⟨H, k, none⟩ a3).setCell ⟨H, l, none⟩ a4).setCell ⟨H, m, none⟩ a5).cell? ⟨b, o, none⟩ = W.cell? ⟨b, o, none⟩ := by
  have q : ∀ x, (⟨H, x, none⟩ : Addr) ≠ ⟨b, o, none⟩ := fun x e => hne (by injection e with e1; exact e1.symm)
  rw [World.cell?_setCell_other _ _ _ _ (q _), World.cell?_setCell_other _ _ _ _ (q _), World.cell?_setCell_other _ _ _ _ (q _), World.cell?_setCell_other _ _ _ _ (q _), World.cell?_setCell_other _ _ _ _ (q _)]
end Go.Proofs.YtfccnadbiglagaaGreat
namespace Go.Proofs.YtfccnadbiglagaaGreat
open Go Go.RowKit
def AtS (s : ByteArray) (p : PS) (ts : Toks) : Prop :=
 ∃ (d : Nat) (pre l : List (Tok × Nat)) (t : Tok) (k : Nat), lexT s.data.toList = pre ++ (t, k) :: l /\ ts = t :: l.map Prod.fst /\ p.done = d /\ d <= s.size /\ (t.kind ≠ 256 -> lexT (s.data.toList.drop d) = l) /\
   p.kind = t.kind /\ p.word.data.toList = t.word /\ p.n = t.n /\ p.at_ = ((s.size - k : Nat) : Int) /\ p.large = false /\ p.e = 0 /\ p.place = 0 /\ t.kind ≠ 257 /\ t.kind ≠ 266 /\ (t.kind = 256 -> s.data.toList.drop d = [])
def BadS (s : ByteArray) (p : PS) (e : Nat) (ts : Toks) : Prop :=
 p.kind = 257 /\ p.large = false /\ ((p.e = e /\ e ≠ 0 /\ p.place = posT s.data.toList ts.length) \/ (e = 1 /\ p.e = 0 /\ p.at_ = posT s.data.toList ts.length))
def RelX (s : ByteArray) (p : PS) : X -> Prop
 | .ok ts => AtS s p ts
 | .error (e, ts) => BadS s p e ts
theorem posT_suffix {t : Bs} {pre l : List (Tok × Nat)} {x : Tok} {k : Nat} (h : lexT t = pre ++ (x, k) :: l) : posT t (l.length + 1) = t.length - k := by
 unfold posT
 rw [h]
 have e : (pre ++ (x, k) :: l).length - (l.length + 1) = pre.length := by simp
 rw [e, List.drop_left]; rfl
end Go.Proofs.YtfccnadbiglagaaGreat
namespace Go.Proofs.YtfccnadbiglagaaGreat
open Go Go.RowKit
section
variable {w w' : World} {b : Nat} {s : ByteArray} {x : X} {df rl : Value} {dp : Int}
end
def kX (x : X) : Int := match x with | .ok ts => kd ts | .error _ => 257
theorem RelX.kind {s : ByteArray} {p : PS} {x : X} (h : RelX s p x) : p.kind = kX x := by
 cases x with
 | error e => exact h.1
 | ok ts =>
   obtain ⟨d, pre, l, t, k, h1, h2, h3, h4, h5, h6, _⟩ := h
   rw [h6, h2]; rfl
theorem RelX.at_ {s : ByteArray} {p : PS} {ts : Toks} (h : RelX s p (.ok ts)) : p.at_ = posT s.data.toList ts.length /\ p.e = 0 /\ p.place = 0 /\ p.large = false /\ p.word.data.toList = (hd ts).word /\ p.n = (hd ts).n := by
 obtain ⟨d, pre, l, t, k, h1, h2, h3, h4, h5, h6, h7, h8, h9, h10, h11, h12, _⟩ := h
 have := posT_suffix h1
 subst h2
 refine ⟨?_, h11, h12, h10, h7, h8⟩
 rw [h9]
 simp only [List.length_cons, List.length_map]
 rw [this]; rfl
section
variable {w : World} {b : Nat} {s : ByteArray} {df rl : Value} {dp : Int}
end
end Go.Proofs.YtfccnadbiglagaaGreat
namespace Go.Proofs.YtfccnadbiglagaaGreat
open Go Go.RowKit
def NamesB (w : World) (b : Nat) (df : Value) (D : List Bs) : Prop := Names w (fun g => g ≠ b) df D /\ D.length <= 12
section
variable {w w' : World} {b : Nat} {s : ByteArray} {x : X} {df rl : Value} {dp : Int} {D : List Bs}
theorem NamesB.keep (h : NamesB w b df D) (hk : ∀ g, g ≠ b -> ∀ i y, w.cell? ⟨g, i, none⟩ = some y -> w'.cell? ⟨g, i, none⟩ = some y) : NamesB w' b df D := ⟨h.1.keep (fun _ hg => hg) hk, h.2⟩
theorem NamesB.alloc (h : NamesB w b df D) (o : Obj) : NamesB (w.alloc o) b df D := h.keep fun g _ i y hy => by rw [World.cell?_alloc_past o _ _ (World.block_lt_of_cell? w _ hy)]; exact hy
theorem NamesB.grown (h : NamesB w b df D) (hg : w.grownBy w' (some b)) : NamesB w' b df D := h.keep fun g hne i y hy => hg.cell hy (fun e => hne (by injection e))
theorem NamesB.below (h : NamesB w b df D) (hb : Below w.heap.size w w') : NamesB w' b df D := h.keep fun g _ i y hy => by rw [hb.cell (p := ⟨g, i, none⟩) (World.block_lt_of_cell? w _ hy)]; exact hy
end
end Go.Proofs.YtfccnadbiglagaaGreat
namespace Go.Proofs.YtfccnadbiglagaaGreat
open Go Go.RowKit
def fiveAt (W : World) (H : Nat) (a1 a2 a3 a4 a5 : Value) : World :=
 ((((W.setCell ⟨H, 0, none⟩ a1).setCell ⟨H, 1, none⟩ a2).setCell ⟨H, 2, none⟩ a3).setCell ⟨H, 3, none⟩ a4).setCell ⟨H, 4, none⟩ a5
section
variable {w W : World} {b H : Nat} {s : ByteArray} {x : X} {df rl : Value} {dp : Int} {a1 a2 a3 a4 a5 : Value}
theorem five_cell (b o : Nat) (hne : b ≠ H) : (fiveAt W H a1 a2 a3 a4 a5).cell? ⟨b, o, none⟩ = W.cell? ⟨b, o, none⟩ := five_keep W b H hne o 0 1 2 3 4 a1 a2 a3 a4 a5
theorem TreeV.five {r : Bool} {S S' : Nat -> Prop} {v : Value} {t : Tree} (h : TreeV r W S v t) (hS : ∀ g, S g -> S' g) (hne : ∀ g, S g -> g ≠ H) : TreeV r (fiveAt W H a1 a2 a3 a4 a5) S' v t :=
 h.keep hS (fun g hg i x hx => by rw [five_cell g i (hne g hg)]; exact hx)
theorem NamesB.five {D : List Bs} (h : NamesB W b df D) (hH : ∀ o, W.cell? ⟨H, o, none⟩ = none \/ True) (hk : ∀ g, g ≠ b -> g ≠ H -> True) : True := trivial
theorem Blk.five {t : TypeId} {c1 c2 c3 c4 c5 : Value} (h : Blk W H t #[c1, c2, c3, c4, c5]) : Blk (fiveAt W H a1 a2 a3 a4 a5) H t #[a1, a2, a3, a4, a5] := by
 have := Blk.set_ (Blk.set_ (Blk.set_ (Blk.set_ (Blk.set_ h 0 a1) 1 a2) 2 a3) 3 a4) 4 a5
 simpa [fiveAt] using this
theorem Blk.five_far {t : TypeId} {cs : Array Value} {g : Nat} (h : Blk W g t cs) (hne : g ≠ H) : Blk (fiveAt W H a1 a2 a3 a4 a5) g t cs :=
 Blk.far (Blk.far (Blk.far (Blk.far (Blk.far h (p := ⟨H, 0, none⟩) hne _) (p := ⟨H, 1, none⟩) hne _) (p := ⟨H, 2, none⟩) hne _) (p := ⟨H, 3, none⟩) hne _) (p := ⟨H, 4, none⟩) hne _
end
end Go.Proofs.YtfccnadbiglagaaGreat
namespace Go.Proofs.YtfccnadbiglagaaGreat
open Go
def Le {α : Type} (n : Nat) (y : Rd α) : Prop := ∀ a ts, y = .ok (a, ts) -> ts.length <= n
def LeX (n : Nat) (x : X) : Prop := ∀ ts, x = .ok ts -> ts.length <= n
theorem Le.err {α : Type} (n : Nat) (e : Nat × Toks) : Le n (.error e : Rd α) := fun _ _ h => by cases h
theorem Le.ok {α : Type} {n : Nat} {a : α} {ts : Toks} (h : ts.length <= n) : Le n (.ok (a, ts) : Rd α) := fun _ _ h' => by cases h'; exact h
theorem LeX.into {α : Type} {n : Nat} {x : X} {f : Toks -> Rd α} (h : LeX n x) (hf : ∀ ts, ts.length <= n -> Le n (f ts)) : Le n (x.into f) := by
 cases x with
 | error e => exact Le.err n e
 | ok ts => exact hf ts (h ts rfl)
theorem LeX.give {α : Type} {n : Nat} {x : X} {a : α} (h : LeX n x) : Le n (x.give a) := by
 cases x with
 | error e => exact Le.err n e
 | ok ts => exact Le.ok (h ts rfl)
theorem Le.then_ {α β : Type} {n : Nat} {y : Rd α} {f : α -> Toks -> Rd β} (h : Le n y) (hf : ∀ a ts, ts.length <= n -> Le n (f a ts)) : Le n (Rd.then_ y f) := by
 cases y with
 | error e => exact Le.err n e
 | ok p => exact hf p.1 p.2 (h p.1 p.2 rfl)
section
variable {F n : Nat} {D : List Bs}
variable {wg : Bool}
end
end Go.Proofs.YtfccnadbiglagaaGreat
namespace Go.Proofs.YtfccnadbiglagaaGreat
open Go Go.RowKit
theorem HeadV.lit {v : Value} (h : HeadV false v) : ∃ (k lo hi : Int) (s : ByteArray) (A : Option Addr) (n c : Nat), v = .agg #[.int .i64 k, .int .i64 lo, .int .i64 hi, .string s, .slice A n c] := by
 obtain ⟨k, lo, hi, wt, s, A, n, c, e⟩ := h
 exact ⟨k, lo, hi, s, A, n, c, e⟩
end Go.Proofs.YtfccnadbiglagaaGreat
namespace Go.Proofs.YtfccnadbiglagaaGreat
open Go Go.RowKit
theorem TreeV.node (r : Bool) (W : World) (S : Nat -> Prop) (k lo hi wt : Int) (N m : Nat) (l : List Tree) (hw : r = false -> wt = 0) (hl : l.length = m) (hm : m <= 2) (hS : S N) (ht : TreesAt r W S N 0 l) :
  TreeV r W S (.agg (headC r k lo hi wt ⟨#[]⟩ (some ⟨N, 0, none⟩) m m).toArray) (.mk k lo hi wt [] l) :=
  ⟨⟨#[]⟩, some ⟨N, 0, none⟩, m, m, rfl, rfl, hw, hl, Nat.le_refl _, by unfold maxLen; omega, ⟨(fun e => by cases e), fun _ _ _ e => by cases e; rfl⟩, (fun b' o' e _ => by cases e; exact ⟨hS, ht⟩)⟩
end Go.Proofs.YtfccnadbiglagaaGreat
namespace Go.Proofs.YtfccnadbiglagaaGreat
open Go Go.RowKit
def NamesW (B : Nat) (w : World) (b : Nat) (df : Value) (D : List Bs) : Prop := Names w (fun g => g ≠ b /\ g < B) df D /\ D.length <= 12
theorem NamesB.low {w : World} {b : Nat} {df : Value} {D : List Bs} (h : NamesB w b df D) : NamesW w.heap.size w b df D := by
 obtain ⟨⟨A, c, e1, e2, e3, e4, e5⟩, hl⟩ := h
 exact ⟨⟨A, c, e1, e2, e3, e4, fun i hi => by
  obtain ⟨g, o, a1, a2, a3, a4⟩ := e5 i hi
  exact ⟨g, o, a1, ⟨a2, a3⟩, a3, a4⟩⟩, hl⟩
theorem NamesW.names {B : Nat} {w : World} {b : Nat} {df : Value} {D : List Bs} (h : NamesW B w b df D) : NamesB w b df D := ⟨h.1.keep (fun _ hg => hg.1) (fun _ _ _ _ hx => hx), h.2⟩
theorem NamesW.keep {B : Nat} {w w' : World} {b : Nat} {df : Value} {D : List Bs} (h : NamesW B w b df D) (hk : ∀ g, g ≠ b -> g < B -> ∀ i y, w.cell? ⟨g, i, none⟩ = some y -> w'.cell? ⟨g, i, none⟩ = some y) : NamesW B w' b df D :=
 ⟨h.1.keep (fun _ hg => hg) (fun g hg => hk g hg.1 hg.2), h.2⟩
theorem NamesW.grown {B : Nat} {w w' : World} {b : Nat} {df : Value} {D : List Bs} (h : NamesW B w b df D) (hg : w.grownBy w' (some b)) : NamesW B w' b df D := h.keep fun g hne _ i y hy => hg.cell hy (fun e => hne (by injection e))
theorem NamesW.alloc {B : Nat} {w : World} {b : Nat} {df : Value} {D : List Bs} (h : NamesW B w b df D) (o : Obj) : NamesW B (w.alloc o) b df D := h.keep fun g _ _ i y hy => by rw [World.cell?_alloc_past o _ _ (World.block_lt_of_cell? w _ hy)]; exact hy
theorem NamesW.five {B H : Nat} {w : World} {b : Nat} {df : Value} {D : List Bs} {a1 a2 a3 a4 a5 : Value} (h : NamesW B w b df D) (hH : B <= H) : NamesW B (fiveAt w H a1 a2 a3 a4 a5) b df D := h.keep fun g _ hlt i y hy => by rw [five_cell g i (by omega)]; exact hy
end Go.Proofs.YtfccnadbiglagaaGreat
namespace Go.Proofs.YtfccnadbiglagaaGreat
open Go Go.RowKit
def putAt (W : World) (H : Nat) : Nat -> List Value -> World
 | _, [] => W
 | o, v :: l => putAt (W.setCell ⟨H, o, none⟩ v) H (o + 1) l
theorem putAt_cons (W : World) (H o : Nat) (v : Value) (l : List Value) : putAt W H o (v :: l) = putAt (W.setCell ⟨H, o, none⟩ v) H (o + 1) l := rfl
section
variable {w W : World} {b H : Nat} {s : ByteArray} {x : X} {df rl : Value} {dp : Int}
theorem put_cell (l : List Value) (g i : Nat) (hne : g ≠ H) : ∀ (W : World) (o : Nat), (putAt W H o l).cell? ⟨g, i, none⟩ = W.cell? ⟨g, i, none⟩ := by
 induction l with
 | nil => intro W o; rfl
 | cons v l ih =>
   intro W o
   rw [putAt_cons, ih, World.cell?_setCell_other _ _ _ _ (fun e => hne (by injection e with e1; exact e1.symm))]
theorem TreeV.put {r : Bool} {S S' : Nat -> Prop} {v : Value} {t : Tree} (l : List Value) (o : Nat) (h : TreeV r W S v t) (hS : ∀ g, S g -> S' g) (hne : ∀ g, S g -> g ≠ H) : TreeV r (putAt W H o l) S' v t :=
 h.keep hS (fun g hg i x hx => by rw [put_cell l g i (hne g hg)]; exact hx)
def setMany (cs : Array Value) : Nat -> List Value -> Array Value
 | _, [] => cs
 | o, v :: l => setMany (cs.setIfInBounds o v) (o + 1) l
theorem Blk.put {t : TypeId} (l : List Value) : ∀ {W : World} {cs : Array Value} (o : Nat), Blk W H t cs -> Blk (putAt W H o l) H t (setMany cs o l) := by
 induction l with
 | nil => intro W cs o h; exact h
 | cons v l ih => intro W cs o h; exact ih (o + 1) (Blk.set_ h o v)
theorem NamesB.put {D : List Bs} (l : List Value) (o : Nat) (h : NamesB W b df D) (hH : NamesW H W b df D) : NamesB (putAt W H o l) b df D :=
 (hH.keep fun g _ hlt i y hy => by rw [put_cell l g i (by omega)]; exact hy).names
theorem NamesW.put {B : Nat} {D : List Bs} (l : List Value) (o : Nat) (h : NamesW B W b df D) (hH : B <= H) : NamesW B (putAt W H o l) b df D :=
 h.keep fun g _ hlt i y hy => by rw [put_cell l g i (by omega)]; exact hy
end
end Go.Proofs.YtfccnadbiglagaaGreat
namespace Go.Proofs.YtfccnadbiglagaaGreat
open Go Go.RowKit
def sixAt (W : World) (H : Nat) (a1 a2 a3 a4 a5 a6 : Value) : World :=
 (((((W.setCell ⟨H, 0, none⟩ a1).setCell ⟨H, 1, none⟩ a2).setCell ⟨H, 2, none⟩ a3).setCell ⟨H, 3, none⟩ a4).setCell ⟨H, 4, none⟩ a5).setCell ⟨H, 5, none⟩ a6
section
variable {w W : World} {b H : Nat} {s : ByteArray} {x : X} {df rl : Value} {dp : Int} {a1 a2 a3 a4 a5 a6 : Value}
theorem sixAt_eq : sixAt W H a1 a2 a3 a4 a5 a6 = (fiveAt W H a1 a2 a3 a4 a5).setCell ⟨H, 5, none⟩ a6 := rfl
theorem six_cell (b o : Nat) (hne : b ≠ H) : (sixAt W H a1 a2 a3 a4 a5 a6).cell? ⟨b, o, none⟩ = W.cell? ⟨b, o, none⟩ := by
 rw [sixAt_eq, World.cell?_setCell_other _ _ _ _ (fun e => hne (by injection e with e1; exact e1.symm))]
 exact five_cell b o hne
theorem TreeV.six {r : Bool} {S S' : Nat -> Prop} {v : Value} {t : Tree} (h : TreeV r W S v t) (hS : ∀ g, S g -> S' g) (hne : ∀ g, S g -> g ≠ H) : TreeV r (sixAt W H a1 a2 a3 a4 a5 a6) S' v t :=
 h.keep hS (fun g hg i x hx => by rw [six_cell g i (hne g hg)]; exact hx)
theorem Blk.six {t : TypeId} {c1 c2 c3 c4 c5 c6 : Value} (h : Blk W H t #[c1, c2, c3, c4, c5, c6]) : Blk (sixAt W H a1 a2 a3 a4 a5 a6) H t #[a1, a2, a3, a4, a5, a6] := by
 have := Blk.set_ (Blk.set_ (Blk.set_ (Blk.set_ (Blk.set_ (Blk.set_ h 0 a1) 1 a2) 2 a3) 3 a4) 4 a5) 5 a6
 simpa [sixAt] using this
theorem NamesW.six {B : Nat} {D : List Bs} (h : NamesW B W b df D) (hH : B <= H) : NamesW B (sixAt W H a1 a2 a3 a4 a5 a6) b df D := h.keep fun g _ hlt i y hy => by rw [six_cell g i (by omega)]; exact hy
end
end Go.Proofs.YtfccnadbiglagaaGreat
namespace Go.Proofs.YtfccnadbiglagaaGreat
open Go Go.RowKit
theorem info_def : (Tryz.prog.info? 73).map (fun i => (i.zero, i.size, i.bytes)) = some (some (.agg #[.string ⟨#[]⟩, .int .i64 0, .int .i64 0, .int .i64 0, .string ⟨#[]⟩, .slice none 0 0]), 6, 80) := by kernel_rfl
structure DCell where
 nm0 : ByteArray
 k : Int
 lo : Int
 hi : Int
 nm : ByteArray
 A : Option Addr
 n : Nat
 c : Nat
def DCell.val (d : DCell) : Value := .agg #[.int .i64 d.k, .int .i64 d.lo, .int .i64 d.hi, .string d.nm, .slice d.A d.n d.c]
def DCell.enc (d : DCell) : List Value := [.string d.nm0, .int .i64 d.k, .int .i64 d.lo, .int .i64 d.hi, .string d.nm, .slice d.A d.n d.c]
theorem DCell.len (d : DCell) : d.enc.length = 6 := rfl
def DefR (w : World) (S : Nat -> Prop) (x : DCell) (d : Bs × Tree) : Prop := x.nm0.data.toList = d.1 /\ TreeV false w S x.val d.2
theorem DefR.keep {w w' : World} {S S' : Nat -> Prop} {x : DCell} {d : Bs × Tree} (h : DefR w S x d) (hS : ∀ g, S g -> g < w.heap.size -> S' g) (hk : ∀ g, S g -> ∀ i y, w.cell? ⟨g, i, none⟩ = some y -> w'.cell? ⟨g, i, none⟩ = some y) : DefR w' S' x d :=
 ⟨h.1, h.2.bound.keep (fun g hg => hS g hg.1 hg.2) (fun g hg => hk g hg.1)⟩
structure RCell where
 cat : Int
 cost : Int
 k1 : Int
 lo1 : Int
 hi1 : Int
 wt1 : Int
 nm1 : ByteArray
 A1 : Option Addr
 n1 : Nat
 c1 : Nat
 k2 : Int
 lo2 : Int
 hi2 : Int
 wt2 : Int
 nm2 : ByteArray
 A2 : Option Addr
 n2 : Nat
 c2 : Nat
def RCell.left (d : RCell) : Value := .agg #[.int .i64 d.k1, .int .i64 d.lo1, .int .i64 d.hi1, .int .i64 d.wt1, .string d.nm1, .slice d.A1 d.n1 d.c1]
def RCell.right (d : RCell) : Value := .agg #[.int .i64 d.k2, .int .i64 d.lo2, .int .i64 d.hi2, .int .i64 d.wt2, .string d.nm2, .slice d.A2 d.n2 d.c2]
def RCell.enc (d : RCell) : List Value := [.int .i64 d.cat, .int .i64 d.cost, .int .i64 d.k1, .int .i64 d.lo1, .int .i64 d.hi1, .int .i64 d.wt1, .string d.nm1, .slice d.A1 d.n1 d.c1, .int .i64 d.k2, .int .i64 d.lo2, .int .i64 d.hi2, .int .i64 d.wt2, .string d.nm2, .slice d.A2 d.n2 d.c2]
theorem RCell.len (d : RCell) : d.enc.length = 14 := rfl
def RuleR (w : World) (S : Nat -> Prop) (x : RCell) (r : RuleT) : Prop := x.cat = r.cat /\ x.cost = r.cost /\ TreeV true w S x.left r.left /\ TreeV true w S x.right r.right
theorem RuleR.keep {w w' : World} {S S' : Nat -> Prop} {x : RCell} {d : RuleT} (h : RuleR w S x d) (hS : ∀ g, S g -> g < w.heap.size -> S' g) (hk : ∀ g, S g -> ∀ i y, w.cell? ⟨g, i, none⟩ = some y -> w'.cell? ⟨g, i, none⟩ = some y) : RuleR w' S' x d :=
 ⟨h.1, h.2.1, h.2.2.1.bound.keep (fun g hg => hS g hg.1 hg.2) (fun g hg => hk g hg.1), h.2.2.2.bound.keep (fun g hg => hS g hg.1 hg.2) (fun g hg => hk g hg.1)⟩
def DefsOwn (w : World) (B : Nat) (v : Value) (l : List (Bs × Tree)) : Prop :=
 ∃ cs : List DCell, w.ownsRow B 73 6 v l.length (cs.flatMap DCell.enc) /\ RowRel (DefR w (fun g => B <= g /\ some g ≠ v.ownBlock)) cs l
def RulesOwn (w : World) (B : Nat) (v : Value) (l : List RuleT) : Prop :=
 ∃ cs : List RCell, w.ownsRow B 234 14 v l.length (cs.flatMap RCell.enc) /\ RowRel (RuleR w (fun g => B <= g /\ some g ≠ v.ownBlock)) cs l
theorem own_form {w : World} {B : Nat} {t : TypeId} {k : Nat} {v : Value} {n : Nat} {xs : List Value} (h : w.ownsRow B t k v n xs) : ∃ A c, v = .slice A n c /\ n <= c /\ c <= maxLen /\ (A = none -> c = 0) := by
 rcases h.2 with ⟨rfl, rfl⟩ | ⟨g, cap, cur, rfl, _, _, h1, h2, _⟩
 ·exact ⟨none, 0, rfl, Nat.le_refl _, Nat.zero_le _, fun _ => rfl⟩
 ·exact ⟨_, cap, rfl, h1, h2, fun e => by cases e⟩
theorem RowRel.len_eq {α β : Type} {R : α -> β -> Prop} {l : List α} {m : List β} (h : RowRel R l m) {i : Nat} (hi : i < m.length) : i < l.length := by rw [h.len]; exact hi
theorem DefsOwn.names {w : World} {B b : Nat} {v : Value} {l : List (Bs × Tree)} (h : DefsOwn w B v l) (hb : b < B) (hl : l.length <= 12) : NamesB w b v (l.map Prod.fst) := by
 obtain ⟨cs, h1, h2⟩ := h
 obtain ⟨A, c, e1, e2, e3, e4⟩ := own_form h1
 have hlen : (l.map Prod.fst).length = l.length := by simp
 refine ⟨⟨A, c, by rw [hlen]; exact e1, by rw [hlen]; exact e2, e3, e4, fun i hi => ?_⟩, by rw [hlen]; exact hl⟩
 rw [hlen] at hi
 rcases h1.2 with ⟨_, h0⟩ | ⟨g, cap, cur, rfl, hg, hh, r⟩
 ·omega
 ·injection e1 with e1 _ e1c
  subst e1
  have hic := h2.len_eq hi
  have hr := h2.at_ i hic hi
  have hc : ∀ j, j < 6 -> w.cell? ⟨g, 0 + i * 6 + j, none⟩ = (cs[i].enc)[j]? := fun j hj => by
   rw [Nat.zero_add, World.ownsRow.cellAt h1 (i * 6 + j) (by omega), flatMap_at DCell.enc 6 DCell.len cs i j hic hj]
  have c0 := hc 0 (by omega); have c1 := hc 1 (by omega); have c2 := hc 2 (by omega); have c3 := hc 3 (by omega); have c4 := hc 4 (by omega); have c5 := hc 5 (by omega)
  refine ⟨g, 0, rfl, by show g ≠ b; omega, (Array.getElem?_eq_some_iff.1 hh).1, cs[i].nm0, cs[i].k, cs[i].lo, cs[i].hi, cs[i].nm, cs[i].A, cs[i].n, cs[i].c, ?_, c0, c1, c2, c3, c4, c5⟩
  rw [hr.1]
  simp [List.getD, hi]
theorem own_below {w : World} {B : Nat} {t : TypeId} {k : Nat} {v : Value} {n : Nat} {xs : List Value} (h : w.ownsRow B t k v n xs) : ∀ g, v.ownBlock = some g -> B <= g /\ g < w.heap.size := fun g hg => World.ownsRow.lt h g hg
theorem only_own {a w w' : World} {row row' : Option Nat} (h : a.grownBy w row) (k : w.grownBy w' row') (hr : ∀ j, row' = some j -> a.heap.size <= j) : a.grownBy w' row :=
 ⟨k.os.trans h.os, k.tape.trans h.tape, k.output.trans h.output, Nat.le_trans h.size k.size, fun i hi hne => (k.block i (Nat.lt_of_lt_of_le hi h.size) (fun e => by have := hr i e.symm; omega)).trans (h.block i hi hne)⟩
theorem DefsOwn.kept {w w' : World} {B b : Nat} {v : Value} {l : List (Bs × Tree)} (h : DefsOwn w B v l) (hb : b < B) (hg : w.grownBy w' (some b)) : DefsOwn w' B v l := by
 obtain ⟨cs, h1, h2⟩ := h
 refine ⟨cs, World.ownsRow.kept h1 hg ?_, h2.mono fun x d q => q.keep (fun _ h _ => h) (fun g hS i y hy => hg.cell hy (fun e => by injection e with e; have e' : g = b := e; omega))⟩
 cases hv : v.ownBlock with
 | none => exact .inl rfl
 | some g => exact .inr (fun e => by injection e with e; have := (own_below h1 g hv).1; omega)
theorem RulesOwn.kept {w w' : World} {B b : Nat} {v : Value} {l : List RuleT} (h : RulesOwn w B v l) (hb : b < B) (hg : w.grownBy w' (some b)) : RulesOwn w' B v l := by
 obtain ⟨cs, h1, h2⟩ := h
 refine ⟨cs, World.ownsRow.kept h1 hg ?_, h2.mono fun x d q => q.keep (fun _ h _ => h) (fun g hS i y hy => hg.cell hy (fun e => by injection e with e; have e' : g = b := e; omega))⟩
 cases hv : v.ownBlock with
 | none => exact .inl rfl
 | some g => exact .inr (fun e => by injection e with e; have := (own_below h1 g hv).1; omega)
theorem DefsOwn.push {w2 w3 w5 : World} {B b g cap : Nat} {v : Value} {l : List (Bs × Tree)} {cs : List DCell} {x : DCell} {d : Bs × Tree} (h2 : RowRel (DefR w2 (fun g => B <= g /\ some g ≠ v.ownBlock)) cs l) (hb : b < B) (hv : ∀ k, v.ownBlock = some k -> k < w2.heap.size) (hB : B <= w2.heap.size)
  (hg : w2.grownBy w3 (some b)) (o : Obj) (hgr : (w3.alloc o).grownBy w5 v.ownBlock) (hat : v.ownBlock = some g \/ g = (w3.alloc o).heap.size)
  (hown : w5.ownsRow B 73 6 (.slice (some ⟨g, 0, none⟩) (l.length + 1) cap) (l.length + 1) (cs.flatMap DCell.enc ++ x.enc)) (hx : x.nm0.data.toList = d.1 /\ TreeV false w3 (fun g => w2.heap.size <= g) x.val d.2) :
  DefsOwn w5 B (.slice (some ⟨g, 0, none⟩) (l.length + 1) cap) (l ++ [d]) := by
  have hz := hg.size
  have hza : (w3.alloc o).heap.size = w3.heap.size + 1 := by simp
  have hob : (Value.slice (some ⟨g, 0, none⟩) (l.length + 1) cap).ownBlock = some g := rfl
  have hal : ∀ k i y, w3.cell? ⟨k, i, none⟩ = some y -> (w3.alloc o).cell? ⟨k, i, none⟩ = some y := fun k i y hy => by rw [World.cell?_alloc_past _ _ _ (World.block_lt_of_cell? w3 _ hy)]; exact hy
  refine ⟨cs ++ [x], ?_, ?_⟩
  ·rw [List.length_append, List.flatMap_append]
   simpa using hown
  ·have hnew : DefR w5 (fun k => B <= k /\ some k ≠ (Value.slice (some ⟨g, 0, none⟩) (l.length + 1) cap).ownBlock) x d := by
    refine DefR.keep (S := fun g => w2.heap.size <= g) hx (fun k hk hlt => ⟨by omega, ?_⟩) (fun k hk i y hy => hgr.cell (hal k i y hy) (fun e => by have := hv k e.symm; omega))
    rw [hob]
    intro e
    injection e with e
    rcases hat with q | q
    ·have := hv g q; omega
    ·omega
   refine RowRel.push hnew (h2.mono fun a c q => ?_)
   refine q.keep (fun k hk hlt => ⟨hk.1, ?_⟩) (fun k hk i y hy => hgr.cell (hal k i y (hg.cell hy (fun e => by injection e with e; have e' : k = b := e; have := hk.1; omega))) hk.2)
   rw [hob]
   intro e
   injection e with e
   rcases hat with q | q
   ·exact hk.2 (by rw [q, e])
   ·omega
theorem RulesOwn.push {w2 w3 w5 : World} {B b g cap : Nat} {v : Value} {l : List RuleT} {cs : List RCell} {x : RCell} {d : RuleT} (h2 : RowRel (RuleR w2 (fun g => B <= g /\ some g ≠ v.ownBlock)) cs l) (hb : b < B) (hv : ∀ k, v.ownBlock = some k -> k < w2.heap.size) (hB : B <= w2.heap.size)
  (hg : w2.grownBy w3 (some b)) (o : Obj) (hgr : (w3.alloc o).grownBy w5 v.ownBlock) (hat : v.ownBlock = some g \/ g = (w3.alloc o).heap.size)
  (hown : w5.ownsRow B 234 14 (.slice (some ⟨g, 0, none⟩) (l.length + 1) cap) (l.length + 1) (cs.flatMap RCell.enc ++ x.enc)) (hx : RuleR w3 (fun g => w2.heap.size <= g) x d) :
  RulesOwn w5 B (.slice (some ⟨g, 0, none⟩) (l.length + 1) cap) (l ++ [d]) := by
  have hz := hg.size
  have hza : (w3.alloc o).heap.size = w3.heap.size + 1 := by simp
  have hob : (Value.slice (some ⟨g, 0, none⟩) (l.length + 1) cap).ownBlock = some g := rfl
  have hal : ∀ k i y, w3.cell? ⟨k, i, none⟩ = some y -> (w3.alloc o).cell? ⟨k, i, none⟩ = some y := fun k i y hy => by rw [World.cell?_alloc_past _ _ _ (World.block_lt_of_cell? w3 _ hy)]; exact hy
  refine ⟨cs ++ [x], ?_, ?_⟩
  ·rw [List.length_append, List.flatMap_append]
   simpa using hown
  ·have hnew : RuleR w5 (fun k => B <= k /\ some k ≠ (Value.slice (some ⟨g, 0, none⟩) (l.length + 1) cap).ownBlock) x d := by
    refine hx.keep (fun k hk hlt => ⟨by omega, ?_⟩) (fun k hk i y hy => hgr.cell (hal k i y hy) (fun e => by have := hv k e.symm; omega))
    rw [hob]
    intro e
    injection e with e
    rcases hat with q | q
    ·have := hv g q; omega
    ·omega
   refine RowRel.push hnew (h2.mono fun a c q => ?_)
   refine q.keep (fun k hk hlt => ⟨hk.1, ?_⟩) (fun k hk i y hy => hgr.cell (hal k i y (hg.cell hy (fun e => by injection e with e; have e' : k = b := e; have := hk.1; omega))) hk.2)
   rw [hob]
   intro e
   injection e with e
   rcases hat with q | q
   ·exact hk.2 (by rw [q, e])
   ·omega
end Go.Proofs.YtfccnadbiglagaaGreat
namespace Go.Proofs.YtfccnadbiglagaaGreat
open Go Go.RowKit
theorem DefsOwn.more {w : World} {B B' : Nat} {v : Value} {l : List (Bs × Tree)} (h : DefsOwn w B v l) (hB : B' <= B) : DefsOwn w B' v l := by
 obtain ⟨cs, h1, h2⟩ := h
 refine ⟨cs, ⟨h1.1, ?_⟩, h2.mono fun x d q => q.keep (fun g hg _ => ⟨by omega, hg.2⟩) (fun _ _ _ _ h => h)⟩
 rcases h1.2 with h | ⟨g, cap, cur, rfl, hg, r⟩
 ·exact .inl h
 ·exact .inr ⟨g, cap, cur, rfl, by omega, r⟩
theorem RulesOwn.more {w : World} {B B' : Nat} {v : Value} {l : List RuleT} (h : RulesOwn w B v l) (hB : B' <= B) : RulesOwn w B' v l := by
 obtain ⟨cs, h1, h2⟩ := h
 refine ⟨cs, ⟨h1.1, ?_⟩, h2.mono fun x d q => q.keep (fun g hg _ => ⟨by omega, hg.2⟩) (fun _ _ _ _ h => h)⟩
 rcases h1.2 with h | ⟨g, cap, cur, rfl, hg, r⟩
 ·exact .inl h
 ·exact .inr ⟨g, cap, cur, rfl, by omega, r⟩
theorem DefsOwn.nil (w : World) (B : Nat) : DefsOwn w B (.slice none 0 0) [] := ⟨[], World.ownsRow_nil _ _ _ _, trivial⟩
theorem RulesOwn.nil (w : World) (B : Nat) : RulesOwn w B (.slice none 0 0) [] := ⟨[], World.ownsRow_nil _ _ _ _, trivial⟩
theorem DefsOwn.far {w : World} {B : Nat} {v : Value} {l : List (Bs × Tree)} (h : DefsOwn w B v l) {q : Addr} (hq : q.block < B) (u : Value) : DefsOwn (w.setCell q u) B v l :=
 h.kept hq (only_setCell (only_refl w (some q.block)) (.inl rfl) u)
theorem RulesOwn.far {w : World} {B : Nat} {v : Value} {l : List RuleT} (h : RulesOwn w B v l) {q : Addr} (hq : q.block < B) (u : Value) : RulesOwn (w.setCell q u) B v l :=
 h.kept hq (only_setCell (only_refl w (some q.block)) (.inl rfl) u)
end Go.Proofs.YtfccnadbiglagaaGreat
