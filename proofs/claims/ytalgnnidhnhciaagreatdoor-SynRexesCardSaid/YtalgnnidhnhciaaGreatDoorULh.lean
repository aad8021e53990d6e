/- Contract of the reference's sets: a set of ranges for each expression. Contract of the reference's Sets. -/
import Derived.Test.YtalgnnidhnhciaaGreatDoorShort
import Derived.Test.YtalgnnidhnhciaaGreatDoorULf
import Derived.Test.YtalgnnidhnhciaaGreatDoorUSynMd
import Derived.Test.YtalgnnidhnhciaaGreatDoorUSi
set_option linter.unusedVariables false
set_option linter.unusedSimpArgs false
set_option linter.unusedVariables false
set_option linter.unusedSimpArgs false
namespace Go.Proofs.YtalgnnidhnhciaaGreatDoor
open Go Go.RowKit Go.Proofs
theorem ReadsP.block {w w' : World} {u : Value} {n : Nat} {l : Rg} (h : ReadsP w u n l) (hk : ∀ b, u.ownBlock = some b -> ∀ o x, w.cell? ⟨b, o, none⟩ = some x -> w'.cell? ⟨b, o, none⟩ = some x) : ReadsP w' u n l := by
 obtain ⟨h1, a, cap, rfl, h5, h6, h3, h4⟩ := h
 refine ⟨h1, a, cap, rfl, h5, h6, h3, fun i hi => ?_⟩
 obtain ⟨b, off, rfl, hc⟩ := h4 i hi
 exact ⟨b, off, rfl, fun j hj => ⟨hk b rfl _ _ (hc j hj).1, hk b rfl _ _ (hc j hj).2⟩⟩
def El (w : World) (Lb : Nat) (v : Value) (u : Value) (l : Rg) : Prop := ReadsP w u l.length l /\ ∀ k, u.ownBlock = some k -> Lb <= k /\ k < w.heap.size /\ some k ≠ v.ownBlock
def SetsRd (w : World) (B Lb : Nat) (v : Value) (ss : List Rg) : Prop := ∃ us : List Value, w.ownsRow B 32 1 v ss.length us /\ RowRel (El w Lb v) us ss
theorem SetsRd.nil (w : World) (B Lb : Nat) : SetsRd w B Lb (.slice none 0 0) [] := ⟨[], World.ownsRow_nil _ _ _ _, trivial⟩
theorem El.bel {w w' : World} {Lb : Nat} {v u : Value} {l : Rg} (h : El w Lb v u l) (hb : Below w.heap.size w w') : El w' Lb v u l := ⟨h.1.below hb, fun k e => ⟨(h.2 k e).1, Nat.lt_of_lt_of_le (h.2 k e).2.1 hb.size, (h.2 k e).2.2⟩⟩
theorem none_or (v : Value) : v.ownBlock = none \/ v.ownBlock ≠ none := by cases v.ownBlock <;> simp
theorem SetsRd.bel {w w' : World} {B Lb : Nat} {v : Value} {ss : List Rg} (h : SetsRd w B Lb v ss) (hb : Below w.heap.size w w') : SetsRd w' B Lb v ss := by
 obtain ⟨us, h1, h2⟩ := h
 exact ⟨us, World.ownsRow.kept h1 (only_of_below hb none) (none_or v), h2.mono fun u l q => q.bel hb⟩
theorem SetsRd.push {w3 w5 : World} {B Lb g cap n : Nat} {v u : Value} {ss : List Rg} {l : Rg} {us : List Value} (hn : ss.length = n) (h2 : RowRel (El w3 Lb v) us ss) (o : Obj) (hgr : (w3.alloc o).grownBy w5 v.ownBlock) (hv : ∀ k, v.ownBlock = some k -> k < w3.heap.size)
  (hat : v.ownBlock = some g \/ g = (w3.alloc o).heap.size) (hown : w5.ownsRow B 32 1 (.slice (some ⟨g, 0, none⟩) (n + 1) cap) (n + 1) (us ++ [u])) (hu : El w3 Lb v u l) : SetsRd w5 B Lb (.slice (some ⟨g, 0, none⟩) (n + 1) cap) (ss ++ [l]) := by
  have key : ∀ (u : Value) (l : Rg), El w3 Lb v u l -> El w5 Lb (.slice (some ⟨g, 0, none⟩) (n + 1) cap) u l := fun u l q => by
   refine ⟨q.1.block fun b hb o' x hx => ?_, fun k e => ⟨(q.2 k e).1, ?_, ?_⟩⟩
   ·have hlt := World.block_lt_of_cell? w3 _ hx
    have h1 : (w3.alloc o).cell? ⟨b, o', none⟩ = some x := by rw [World.cell?_alloc_past _ _ _ hlt]; exact hx
    exact hgr.cell h1 (q.2 b hb).2.2
   ·have h7 := hgr.size; have h8 := (q.2 k e).2.1; have h9 : (w3.alloc o).heap.size = w3.heap.size + 1 := by simp
    omega
   ·intro e2
    have e2' : k = g := by injection e2
    have h3 := q.2 k e
    rcases hat with h4 | h4
    ·exact h3.2.2 (by rw [h4, e2'])
    ·have h5 : (w3.alloc o).heap.size = w3.heap.size + 1 := by simp
     have h6 := h3.2.1
     omega
  refine ⟨us ++ [u], by rw [List.length_append, hn]; exact hown, RowRel.push (key u l hu) (h2.mono key)⟩
theorem SetsRd.get {w : World} {B Lb : Nat} {v : Value} {ss : List Rg} (h : SetsRd w B Lb v ss) (i : Nat) (hi : i < ss.length) : ∃ g c u, v = .slice (some ⟨g, 0, none⟩) ss.length c /\ w.cell? ⟨g, i, none⟩ = some u /\ El w Lb v u ss[i] := by
 obtain ⟨us, h1, h2⟩ := h
 rcases h1.2 with ⟨_, h0⟩ | ⟨g, cap, cur, rfl, hg, hh, r⟩
 ·omega
 ·have hiu := h2.len_eq hi
  exact ⟨g, cap, us[i], rfl, by rw [World.ownsRow.cellAt h1 i (by omega), List.getElem?_eq_getElem hiu], h2.at_ i hiu hi⟩
theorem SetsRd.form {w : World} {B Lb : Nat} {v : Value} {ss : List Rg} (h : SetsRd w B Lb v ss) : ∃ A c, v = .slice A ss.length c /\ ss.length <= c /\ c <= maxLen := by
 obtain ⟨us, h1, h2⟩ := h
 obtain ⟨A, c, e, h3, h4, _⟩ := own_form h1
 exact ⟨A, c, e, h3, h4⟩
def RT (w : World) (S : Nat -> Prop) (R : Rg) (e : Ending) (w' : World) : Prop :=
 ∃ u, e = .returned u /\ ReadsP w' u R.length R /\ (∀ g, u.ownBlock = some g -> (S g \/ w.heap.size <= g) /\ g < w'.heap.size) /\ Below w.heap.size w w'
theorem RT.from_ {w w1 w2 : World} {S : Nat -> Prop} {R : Rg} {e : Ending} (hb : Below w.heap.size w w1) (h : RT w1 S R e w2) : RT w S R e w2 := by
 obtain ⟨u, h1, h2, h3, h4⟩ := h
 exact ⟨u, h1, h2, fun g hg => ⟨(h3 g hg).1.imp id (fun q => Nat.le_trans hb.size q), (h3 g hg).2⟩, hb.trans (h4.mono hb.size)⟩
def SetsIn (w : World) (S : Nat -> Prop) (sv : Value) (ss : List Rg) : Prop :=
 ∃ A c, sv = .slice A ss.length c /\ ss.length <= c /\ c <= maxLen /\ ∀ i, i < ss.length -> ∃ b off u, A = some ⟨b, off, none⟩ /\ w.cell? ⟨b, off + i, none⟩ = some u /\ ReadsP w u (ss.getD i []).length (ss.getD i []) /\ ∀ g, u.ownBlock = some g -> S g /\ g < w.heap.size
theorem SetsIn.bel {w w' : World} {S : Nat -> Prop} {sv : Value} {ss : List Rg} (h : SetsIn w S sv ss) (hb : Below w.heap.size w w') : SetsIn w' S sv ss := by
 obtain ⟨A, c, h1, h2, h3, h4⟩ := h
 refine ⟨A, c, h1, h2, h3, fun i hi => ?_⟩
 obtain ⟨b, off, u, e, hc, hr, hs⟩ := h4 i hi
 exact ⟨b, off, u, e, by rw [hb.cell (p := ⟨b, off + i, none⟩) (World.block_lt_of_cell? w _ hc)]; exact hc, hr.below hb, fun g hg => ⟨(hs g hg).1, Nat.lt_of_lt_of_le (hs g hg).2 hb.size⟩⟩
def Cls.kids : Cls -> List Cls
 | .range _ _ => [] | .name _ => [] | .any_ => []
 | .not_ a => [a] | .or_ a b => [a, b] | .and_ a b => [a, b] | .less a b => [a, b]
def Cls.kind : Cls -> Int
 | .range _ _ => 1 | .name _ => 2 | .any_ => 3 | .not_ _ => 4 | .or_ _ _ => 5 | .and_ _ _ => 6 | .less _ _ => 7
theorem Cls.tree_kids (p : Cls) : ∃ lo hi nm, p.tree = .mk p.kind lo hi 0 nm (p.kids.map Cls.tree) := by
 cases p <;> exact ⟨_, _, _, rfl⟩
theorem Cls.kids_len (p : Cls) : p.kids.length <= 2 := by cases p <;> simp [Cls.kids]
theorem TreeAt.val5 {w : World} {S : Nat -> Prop} {b o : Nat} {t : Tree} (h : TreeAt false w S b o t) : ∃ (k lo hi : Int) (s : ByteArray) (A : Option Addr) (n c : Nat), CellsAt w b o [.int .i64 k, .int .i64 lo, .int .i64 hi, .string s, .slice A n c] /\ TreeV false w S (.agg #[.int .i64 k, .int .i64 lo, .int .i64 hi, .string s, .slice A n c]) t := by
 cases t with
 | mk k lo hi wt nm l =>
   rw [TreeAt] at h
   obtain ⟨s, A, n, c, h1, h2⟩ := h
   exact ⟨k, lo, hi, s, A, n, c, h1, s, A, n, c, rfl, h2⟩
theorem CellsAt.at5 {w : World} {b o : Nat} {x y z u t : Value} (h : CellsAt w b o [x, y, z, u, t]) : w.cell? ⟨b, o, none⟩ = some x /\ w.cell? ⟨b, o + 1, none⟩ = some y /\ w.cell? ⟨b, o + 2, none⟩ = some z /\ w.cell? ⟨b, o + 3, none⟩ = some u /\ w.cell? ⟨b, o + 4, none⟩ = some t := ⟨h 0 x rfl, h 1 y rfl, h 2 z rfl, h 3 u rfl, h 4 t rfl⟩
theorem CellsAt.bel {w w' : World} {b o : Nat} {cs : List Value} (h : CellsAt w b o cs) (hb : Below w.heap.size w w') : CellsAt w' b o cs := fun i v hv => by
 have hc := h i v hv
 rw [hb.cell (p := ⟨b, o + i, none⟩) (World.block_lt_of_cell? w _ hc)]; exact hc
structure RgS (w : World) (c0 c1 : Array Value) (W : World) : Prop where
 below : Below w.heap.size w W
 box : Blk W w.heap.size 35 c0
 file : Blk W (w.heap.size + 1) 28 c1
theorem RgS.mk' (w : World) (c0 c1 : Array Value) : RgS w c0 c1 ((w.alloc (.cells c0 35)).alloc (.cells c1 28)) := by
 have h := Blk.new (w.alloc (.cells c0 35)) 28 c1
 exact ⟨((Below.refl _ _).alloc (Nat.le_refl _) _).alloc (by simp) _, Blk.alloc (Blk.new w _ _) _, by simpa using h⟩
section
variable {w W W' : World} {c0 c1 : Array Value}
theorem RgS.drew (h : RgS w c0 c1 W) : RgS w c0 c1 W.drew := ⟨h.below.drew, Blk.drew h.box, Blk.drew h.file⟩
theorem RgS.size (h : RgS w c0 c1 W) : w.heap.size + 1 < W.heap.size := h.file.lt
theorem RgS.bel (h : RgS w c0 c1 W) (hb : Below W.heap.size W W') : RgS w c0 c1 W' :=
 ⟨h.below.trans (hb.mono h.below.size), Blk.below h.box hb h.box.lt, Blk.below h.file hb h.file.lt⟩
theorem RgS.alloc (h : RgS w c0 c1 W) (o : Obj) : RgS w c0 c1 (W.alloc o) := ⟨h.below.alloc h.below.size o, Blk.alloc h.box o, Blk.alloc h.file o⟩
theorem RgS.grown (h : RgS w c0 c1 W) {row : Option Nat} (hg : W.grownBy W' row) (hr : ∀ j, row = some j -> w.heap.size + 2 <= j) : RgS w c0 c1 W' :=
 ⟨below_own h.below hg h.below.size (fun j e => by have := hr j e; omega), Blk.grown h.box hg (fun e => by have := hr _ e.symm; omega), Blk.grown h.file hg (fun e => by have := hr _ e.symm; omega)⟩
theorem RgS.cells (h : RgS w c0 c1 W) : (∀ i, W.cell? ⟨w.heap.size, i, none⟩ = c0[i]?) /\ (∀ i, W.cell? ⟨w.heap.size + 1, i, none⟩ = c1[i]?) := ⟨Blk.cell h.box, Blk.cell h.file⟩
end
theorem own_capm {w : World} {B : Nat} {t : TypeId} {k : Nat} {A : Option Addr} {n m cap : Nat} {xs : List Value} (h : w.ownsRow B t k (.slice A n cap) m xs) : cap <= 9223372036854775807 := by
 obtain ⟨A', c', e, _, h1, _⟩ := own_form h
 injection e with e1 e2 e3
 unfold maxLen at h1
 omega
end Go.Proofs.YtalgnnidhnhciaaGreatDoor
set_option linter.unusedVariables false
set_option linter.unusedSimpArgs false
namespace Go.Proofs.YtalgnnidhnhciaaGreatDoor
open Go Go.RowKit Go.Proofs
structure FlS (w : World) (c1 : Array Value) (W : World) : Prop where
 below : Below w.heap.size w W
 file : Blk W w.heap.size 28 c1
section
variable {w W W' : World} {c1 : Array Value}
theorem FlS.drew (h : FlS w c1 W) : FlS w c1 W.drew := ⟨h.below.drew, Blk.drew h.file⟩
theorem FlS.bel (h : FlS w c1 W) (hb : Below W.heap.size W W') : FlS w c1 W' := ⟨h.below.trans (hb.mono h.below.size), Blk.below h.file hb h.file.lt⟩
theorem FlS.alloc (h : FlS w c1 W) (o : Obj) : FlS w c1 (W.alloc o) := ⟨h.below.alloc h.below.size o, Blk.alloc h.file o⟩
theorem FlS.grown (h : FlS w c1 W) {row : Option Nat} (hg : W.grownBy W' row) (hr : ∀ j, row = some j -> w.heap.size + 1 <= j) : FlS w c1 W' :=
 ⟨below_own h.below hg h.below.size (fun j e => by have := hr j e; omega), Blk.grown h.file hg (fun e => by have := hr _ e.symm; omega)⟩
end
end Go.Proofs.YtalgnnidhnhciaaGreatDoor
