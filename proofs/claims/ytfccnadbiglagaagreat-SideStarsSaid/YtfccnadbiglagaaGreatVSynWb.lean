/- Expressions and patterns as they lie in memory. Contracts of syn's writing: a builder within a writer; words one behind the other. Contracts of syn's writing of patterns. -/
import Derived.Test.YtfccnadbiglagaaGreatVBlk
import Derived.Test.YtfccnadbiglagaaGreatVPlA
import Derived.Test.YtfccnadbiglagaaGreatVShelfB
import Derived.Lib.OthersKept
import Derived.Lib.FrozenHead2
import Derived.BigCall
import Derived.Deep.LoopGhost
import Derived.LoopTactic
import Derived.StillTailTactics
set_option linter.unusedVariables false
set_option linter.unusedSimpArgs false
namespace Go.Proofs.YtfccnadbiglagaaGreat
open Go Go.RowKit
def headC (r : Bool) (k lo hi wt : Int) (s : ByteArray) (A : Option Addr) (n c : Nat) : List Value :=
 match r with
 | true => [.int .i64 k, .int .i64 lo, .int .i64 hi, .int .i64 wt, .string s, .slice A n c]
 | false => [.int .i64 k, .int .i64 lo, .int .i64 hi, .string s, .slice A n c]
def sz (r : Bool) : Nat := match r with | true => 6 | false => 5
def CellsAt (w : World) (b o : Nat) (cs : List Value) : Prop := ∀ i v, cs[i]? = some v -> w.cell? ⟨b, o + i, none⟩ = some v
def AForm (A : Option Addr) (n : Nat) : Prop := (A = none -> n = 0) /\ ∀ g o y, A = some ⟨g, o, y⟩ -> y = none
theorem AForm.some {A : Option Addr} {n : Nat} (h : AForm A n) (hn : 0 < n) : ∃ g o, A = some ⟨g, o, none⟩ := by
 cases A with
 | none => have := h.1 rfl; omega
 | some a =>
   obtain ⟨g, o, y⟩ := a
   obtain rfl := h.2 g o y rfl
   exact ⟨g, o, rfl⟩
mutual
def TreeAt (r : Bool) (w : World) (S : Nat -> Prop) (b o : Nat) : Tree -> Prop
 | .mk k lo hi wt nm l => ∃ (s : ByteArray) (A : Option Addr) (n c : Nat), CellsAt w b o (headC r k lo hi wt s A n c) /\ s.data.toList = nm /\ (r = false -> wt = 0) /\ l.length = n /\ n <= c /\ c <= maxLen /\
   AForm A n /\ ∀ b' o', A = some ⟨b', o', none⟩ -> 0 < n -> S b' /\ TreesAt r w S b' o' l
def TreesAt (r : Bool) (w : World) (S : Nat -> Prop) (b o : Nat) : List Tree -> Prop
 | [] => True
 | t :: ts => TreeAt r w S b o t /\ TreesAt r w S b (o + sz r) ts
end
def TreeV (r : Bool) (w : World) (S : Nat -> Prop) (v : Value) : Tree -> Prop
 | .mk k lo hi wt nm l => ∃ (s : ByteArray) (A : Option Addr) (n c : Nat), v = .agg (headC r k lo hi wt s A n c).toArray /\ s.data.toList = nm /\ (r = false -> wt = 0) /\ l.length = n /\ n <= c /\ c <= maxLen /\
   AForm A n /\ ∀ b' o', A = some ⟨b', o', none⟩ -> 0 < n -> S b' /\ TreesAt r w S b' o' l
def HeadV (r : Bool) (v : Value) : Prop := ∃ (k lo hi wt : Int) (s : ByteArray) (A : Option Addr) (n c : Nat), v = .agg (headC r k lo hi wt s A n c).toArray
theorem TreeV.head {r : Bool} {w : World} {S : Nat -> Prop} {v : Value} {t : Tree} (h : TreeV r w S v t) : HeadV r v := by
 cases t
 obtain ⟨s, A, n, c, e, _⟩ := h
 exact ⟨_, _, _, _, s, A, n, c, e⟩
theorem CellsAt.keep {w w' : World} {b o : Nat} {cs : List Value} (h : CellsAt w b o cs) (hk : ∀ i x, w.cell? ⟨b, i, none⟩ = some x -> w'.cell? ⟨b, i, none⟩ = some x) : CellsAt w' b o cs := fun i v hv => hk _ _ (h i v hv)
mutual
theorem TreeAt.keep {r : Bool} {w w' : World} {S S' : Nat -> Prop} (hS : ∀ g, S g -> S' g) (hk : ∀ g, S g -> ∀ i x, w.cell? ⟨g, i, none⟩ = some x -> w'.cell? ⟨g, i, none⟩ = some x) :
  ∀ (t : Tree) (b o : Nat), (∀ i x, w.cell? ⟨b, i, none⟩ = some x -> w'.cell? ⟨b, i, none⟩ = some x) -> TreeAt r w S b o t -> TreeAt r w' S' b o t
  | .mk k lo hi wt nm l, b, o, hb, h => by
    rw [TreeAt] at h ⊢
    obtain ⟨s, A, n, c, h1, h2, h3, h4, h5, h6, h7, h8⟩ := h
    refine ⟨s, A, n, c, h1.keep hb, h2, h3, h4, h5, h6, h7, fun b' o' e hn => ?_⟩
    obtain ⟨g1, g2⟩ := h8 b' o' e hn
    exact ⟨hS _ g1, TreesAt.keep hS hk l b' o' (hk b' g1) g2⟩
theorem TreesAt.keep {r : Bool} {w w' : World} {S S' : Nat -> Prop} (hS : ∀ g, S g -> S' g) (hk : ∀ g, S g -> ∀ i x, w.cell? ⟨g, i, none⟩ = some x -> w'.cell? ⟨g, i, none⟩ = some x) :
  ∀ (l : List Tree) (b o : Nat), (∀ i x, w.cell? ⟨b, i, none⟩ = some x -> w'.cell? ⟨b, i, none⟩ = some x) -> TreesAt r w S b o l -> TreesAt r w' S' b o l
  | [], _, _, _, _ => by rw [TreesAt]; trivial
  | t :: ts, b, o, hb, h => by
    rw [TreesAt] at h ⊢
    exact ⟨TreeAt.keep hS hk t b o hb h.1, TreesAt.keep hS hk ts b (o + sz r) hb h.2⟩
end
theorem TreeV.keep {r : Bool} {w w' : World} {S S' : Nat -> Prop} {v : Value} {t : Tree} (h : TreeV r w S v t) (hS : ∀ g, S g -> S' g) (hk : ∀ g, S g -> ∀ i x, w.cell? ⟨g, i, none⟩ = some x -> w'.cell? ⟨g, i, none⟩ = some x) : TreeV r w' S' v t := by
 cases t with
 | mk k lo hi wt nm l =>
   obtain ⟨s, A, n, c, h1, h2, h3, h4, h5, h6, h7, h8⟩ := h
   refine ⟨s, A, n, c, h1, h2, h3, h4, h5, h6, h7, fun b' o' e hn => ?_⟩
   obtain ⟨g1, g2⟩ := h8 b' o' e hn
   exact ⟨hS _ g1, TreesAt.keep hS hk l b' o' (hk b' g1) g2⟩
theorem TreeV.laid {r : Bool} {w : World} {S : Nat -> Prop} {k lo hi wt : Int} {s : ByteArray} {A : Option Addr} {n c : Nat} {t : Tree} {b o : Nat} (h : TreeV r w S (.agg (headC r k lo hi wt s A n c).toArray) t) (hc : CellsAt w b o (headC r k lo hi wt s A n c)) : TreeAt r w S b o t := by
 cases t with
 | mk k' lo' hi' wt' nm l =>
   obtain ⟨s', A', n', c', h1, h2, h3, h4, h5, h6, h7, h8⟩ := h
   rw [TreeAt]
   have e : headC r k lo hi wt s A n c = headC r k' lo' hi' wt' s' A' n' c' := by
    have := Value.agg.inj h1
    have := congrArg Array.toList this
    simpa using this
   rw [e] at hc
   exact ⟨s', A', n', c', hc, h2, h3, h4, h5, h6, h7, h8⟩
theorem TreeV.leaf (r : Bool) (w : World) (S : Nat -> Prop) (k lo hi wt : Int) (s : ByteArray) (hw : r = false -> wt = 0) : TreeV r w S (.agg (headC r k lo hi wt s none 0 0).toArray) (.mk k lo hi wt s.data.toList []) :=
 ⟨s, none, 0, 0, rfl, rfl, hw, rfl, Nat.le_refl _, Nat.zero_le _, ⟨fun _ => rfl, fun _ _ _ e => by cases e⟩, fun _ _ e => by cases e⟩
theorem TreesAt.lt {r : Bool} {w : World} {S : Nat -> Prop} {b o : Nat} {l : List Tree} (h : TreesAt r w S b o l) (hl : 0 < l.length) : b < w.heap.size := by
 cases l with
 | nil => simp at hl
 | cons t ts =>
   rw [TreesAt] at h
   obtain ⟨h1, _⟩ := h
   cases t with
   | mk k lo hi wt nm l =>
     rw [TreeAt] at h1
     obtain ⟨s, A, n, c, hc, _⟩ := h1
     exact World.block_lt_of_cell? w _ (hc 0 (.int .i64 k) (by cases r <;> rfl))
mutual
theorem TreeAt.bound {r : Bool} {w : World} {S : Nat -> Prop} : ∀ (t : Tree) (b o : Nat), TreeAt r w S b o t -> TreeAt r w (fun g => S g /\ g < w.heap.size) b o t
 | .mk k lo hi wt nm l, b, o, h => by
   rw [TreeAt] at h ⊢
   obtain ⟨s, A, n, c, h1, h2, h3, h4, h5, h6, h7, h8⟩ := h
   refine ⟨s, A, n, c, h1, h2, h3, h4, h5, h6, h7, fun b' o' e hn => ?_⟩
   obtain ⟨g1, g2⟩ := h8 b' o' e hn
   exact ⟨⟨g1, g2.lt (by omega)⟩, TreesAt.bound l b' o' g2⟩
theorem TreesAt.bound {r : Bool} {w : World} {S : Nat -> Prop} : ∀ (l : List Tree) (b o : Nat), TreesAt r w S b o l -> TreesAt r w (fun g => S g /\ g < w.heap.size) b o l
 | [], _, _, _ => by rw [TreesAt]; trivial
 | t :: ts, b, o, h => by
   rw [TreesAt] at h ⊢
   exact ⟨TreeAt.bound t b o h.1, TreesAt.bound ts b (o + sz r) h.2⟩
end
theorem TreeV.bound {r : Bool} {w : World} {S : Nat -> Prop} {v : Value} {t : Tree} (h : TreeV r w S v t) : TreeV r w (fun g => S g /\ g < w.heap.size) v t := by
 cases t with
 | mk k lo hi wt nm l =>
   obtain ⟨s, A, n, c, h1, h2, h3, h4, h5, h6, h7, h8⟩ := h
   refine ⟨s, A, n, c, h1, h2, h3, h4, h5, h6, h7, fun b' o' e hn => ?_⟩
   obtain ⟨g1, g2⟩ := h8 b' o' e hn
   exact ⟨⟨g1, g2.lt (by omega)⟩, TreesAt.bound l b' o' g2⟩
end Go.Proofs.YtfccnadbiglagaaGreat
namespace Go.Proofs.YtfccnadbiglagaaGreat
open Go Go.RowKit Go.Proofs
structure WFr (B b : Nat) (w w' : World) : Prop where
 below : Below B w w'
 keeps : ∀ g t cs, Blk w g t cs -> g ≠ b -> t ≠ 5 -> Blk w' g t cs
 grows : w.heap.size <= w'.heap.size
theorem WFr.refl (B b : Nat) (w : World) : WFr B b w w := ⟨Below.refl B w, fun _ _ _ h _ _ => h, Nat.le_refl _⟩
theorem WFr.trans {B b : Nat} {w w' w'' : World} (h : WFr B b w w') (k : WFr B b w' w'') : WFr B b w w'' := ⟨h.below.trans k.below, fun g t cs q h1 h2 => k.keeps g t cs (h.keeps g t cs q h1 h2) h1 h2, Nat.le_trans h.grows k.grows⟩
theorem WFr.alloc {B b : Nat} {w w' : World} (h : WFr B b w w') (hB : B <= w'.heap.size) (o : Obj) : WFr B b w (w'.alloc o) := ⟨h.below.alloc hB o, fun g t cs q h1 h2 => Blk.alloc (h.keeps g t cs q h1 h2) o, by have := h.grows; simp; omega⟩
theorem WFr.drew {B b : Nat} {w w' : World} (h : WFr B b w w') : WFr B b w w'.drew := ⟨h.below.drew, h.keeps, h.grows⟩
theorem WFr.drewN {B b : Nat} {w w' : World} (h : WFr B b w w') (n : Nat) : WFr B b w (w'.drewN n) := ⟨⟨h.below.os, h.below.tape, h.below.output, h.below.size, h.below.block⟩, h.keeps, h.grows⟩
theorem WFr.setCell {B b : Nat} {w w' : World} (h : WFr B b w w') (hB : B <= b) (o : Nat) (v : Value) : WFr B b w (w'.setCell ⟨b, o, none⟩ v) :=
 ⟨h.below.setCell (p := ⟨b, o, none⟩) hB v, fun g t cs q h1 h2 => Blk.far (h.keeps g t cs q h1 h2) (p := ⟨b, o, none⟩) h1 v, by simpa [World.setCell] using h.grows⟩
end Go.Proofs.YtfccnadbiglagaaGreat
namespace Go.Proofs.YtfccnadbiglagaaGreat
open Go Go.RowKit Go.Proofs
theorem TreeV.fr {r : Bool} {B : Nat} {w w' : World} {v : Value} {t : Tree} (h : TreeV r w (fun g => g < B) v t) (hb : Below B w w') : TreeV r w' (fun g => g < B) v t :=
 h.keep (fun _ h => h) (fun g hg i x hx => by rw [hb.cell (p := ⟨g, i, none⟩) hg]; exact hx)
theorem TreesAt.at_ {r : Bool} {w : World} {S : Nat -> Prop} {b : Nat} : ∀ {l : List Tree} {o : Nat}, TreesAt r w S b o l -> ∀ (i : Nat) (hi : i < l.length), TreeAt r w S b (o + i * sz r) l[i] := by
 intro l
 induction l with
 | nil => intro o _ i hi; simp at hi
 | cons t l ih =>
   intro o h i hi
   rw [TreesAt] at h
   cases i with
   | zero => simpa using h.1
   | succ i =>
     have := ih h.2 i (by simpa using hi)
     rw [show o + (i + 1) * sz r = o + sz r + i * sz r by rw [Nat.add_mul]; omega]
     exact this
theorem TreeAt.value {r : Bool} {w : World} {S : Nat -> Prop} {b o : Nat} {t : Tree} (h : TreeAt r w S b o t) : ∃ (k lo hi wt : Int) (s : ByteArray) (A : Option Addr) (n c : Nat), CellsAt w b o (headC r k lo hi wt s A n c) /\ TreeV r w S (.agg (headC r k lo hi wt s A n c).toArray) t := by
 cases t with
 | mk k lo hi wt nm l =>
   rw [TreeAt] at h
   obtain ⟨s, A, n, c, h1, h2⟩ := h
   exact ⟨k, lo, hi, wt, s, A, n, c, h1, s, A, n, c, rfl, h2⟩
def KidsV (r : Bool) (w : World) (S : Nat -> Prop) (A : Option Addr) (n c : Nat) (l : List Tree) : Prop := l.length = n /\ n <= c /\ c <= maxLen /\ AForm A n /\ ∀ b' o', A = some ⟨b', o', none⟩ -> 0 < n -> S b' /\ TreesAt r w S b' o' l
theorem KidsV.keep {r : Bool} {w w' : World} {S : Nat -> Prop} {A : Option Addr} {n c : Nat} {l : List Tree} (h : KidsV r w S A n c l) (hk : ∀ g, S g -> ∀ i x, w.cell? ⟨g, i, none⟩ = some x -> w'.cell? ⟨g, i, none⟩ = some x) : KidsV r w' S A n c l := by
 obtain ⟨h1, h2, h3, h4, h5⟩ := h
 exact ⟨h1, h2, h3, h4, fun b' o' e hn => ⟨(h5 b' o' e hn).1, TreesAt.keep (fun _ h => h) hk l b' o' (hk b' (h5 b' o' e hn).1) (h5 b' o' e hn).2⟩⟩
theorem KidsV.fr {r : Bool} {B : Nat} {w w' : World} {A : Option Addr} {n c : Nat} {l : List Tree} (h : KidsV r w (fun g => g < B) A n c l) (hb : Below B w w') : KidsV r w' (fun g => g < B) A n c l :=
 h.keep (fun g hg i x hx => by rw [hb.cell (p := ⟨g, i, none⟩) hg]; exact hx)
theorem TreeV.six_ {w : World} {S : Nat -> Prop} {v : Value} {k0 lo0 hi0 wt0 : Int} {nm0 : Bs} {l0 : List Tree} (h : TreeV true w S v (.mk k0 lo0 hi0 wt0 nm0 l0)) :
  ∃ (nm : ByteArray) (A : Option Addr) (n c : Nat), v = .agg #[.int .i64 k0, .int .i64 lo0, .int .i64 hi0, .int .i64 wt0, .string nm, .slice A n c] /\ nm.data.toList = nm0 /\ KidsV true w S A n c l0 := by
  obtain ⟨s, A, n, c, h1, h2, h3, h4, h5, h6, h7, h8⟩ := h
  exact ⟨s, A, n, c, h1, h2, ⟨h4, h5, h6, h7, h8⟩⟩
def Tree.kind : Tree -> Int
 | .mk k _ _ _ _ _ => k
theorem TreeV.kinded {w : World} {S : Nat -> Prop} {v : Value} {t : Tree} (h : TreeV true w S v t) : ∃ (k lo hi wt : Int) (nm : ByteArray) (A : Option Addr) (n c : Nat), v = .agg #[.int .i64 k, .int .i64 lo, .int .i64 hi, .int .i64 wt, .string nm, .slice A n c] /\ k = t.kind := by
 cases t
 obtain ⟨s, A, n, c, e, _⟩ := h
 exact ⟨_, _, _, _, s, A, n, c, e, rfl⟩
end Go.Proofs.YtfccnadbiglagaaGreat
