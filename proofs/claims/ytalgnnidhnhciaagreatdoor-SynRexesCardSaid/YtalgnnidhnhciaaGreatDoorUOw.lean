/- What the law SynSets needs of sets, one more behind them; plain mathematics, and rows that grow. The law SynSets, walked. What the law SynOwn asks of the laws' files; plain. The law SynOwn, walked. -/
import Derived.Test.YtalgnnidhnhciaaGreatDoorShort
import Derived.Test.YtalgnnidhnhciaaGreatDoorULh
import Derived.Test.YtalgnnidhnhciaaGreatDoorUSynKa
import Derived.Deep.RegionHeld3
import Derived.Test.YtalgnnidhnhciaaGreatDoorULj
set_option linter.unusedVariables false
set_option linter.unusedSimpArgs false
set_option linter.unusedVariables false
set_option linter.unusedSimpArgs false
set_option linter.unusedVariables false
set_option linter.unusedSimpArgs false
namespace Go.Proofs.YtalgnnidhnhciaaGreatDoor
open Go Go.RowKit Go.Proofs
def DefsOwnF (w : World) (B F : Nat) (v : Value) (l : List (Bs × Tree)) : Prop :=
 ∃ cs : List DCell, w.ownsRow B 37 6 v l.length (cs.flatMap DCell.enc) /\ RowRel (DefR w (fun g => B <= g /\ some g ≠ v.ownBlock /\ g ≠ F)) cs l
theorem DefsOwnF.of {w : World} {B F : Nat} {v : Value} {l : List (Bs × Tree)} (h : DefsOwn w B v l) (hF : w.heap.size <= F) : DefsOwnF w B F v l := by
 obtain ⟨cs, h1, h2⟩ := h
 exact ⟨cs, h1, h2.mono fun x d q => q.keep (fun g hg hlt => ⟨hg.1, hg.2, by omega⟩) (fun _ _ _ _ h => h)⟩
theorem DefsOwnF.bel {w w' : World} {B F : Nat} {v : Value} {l : List (Bs × Tree)} (h : DefsOwnF w B F v l) (hb : Below w.heap.size w w') : DefsOwnF w' B F v l := by
 obtain ⟨cs, h1, h2⟩ := h
 exact ⟨cs, World.ownsRow.kept h1 (only_of_below hb none) (none_or v), h2.mono fun x d q => q.keep (fun g hg _ => hg) (fun g _ i y hy => by rw [hb.cell (p := ⟨g, i, none⟩) (World.block_lt_of_cell? w _ hy)]; exact hy)⟩
theorem DefsOwnF.more {w2 w3 w5 : World} {B F g cap : Nat} {v : Value} {l : List (Bs × Tree)} {cs : List DCell} {x : DCell} {d : Bs × Tree} (h2 : RowRel (DefR w2 (fun g => B <= g /\ some g ≠ v.ownBlock /\ g ≠ F)) cs l) (hv : ∀ k, v.ownBlock = some k -> k < w2.heap.size /\ k ≠ F) (hF : F < w2.heap.size)
  (hb : Below w2.heap.size w2 w3) (o : Obj) (hgr : (w3.alloc o).grownBy w5 v.ownBlock) (hat : v.ownBlock = some g \/ g = (w3.alloc o).heap.size)
  (hown : w5.ownsRow B 37 6 (.slice (some ⟨g, 0, none⟩) (l.length + 1) cap) (l.length + 1) (cs.flatMap DCell.enc ++ x.enc)) (hx : x.nm0.data.toList = d.1 /\ TreeV false w3 (fun g => w2.heap.size <= g) x.val d.2) (j : Nat) (y : Value) :
  DefsAt (w5.setCell ⟨F, j, none⟩ y) (fun g => g < (w5.setCell ⟨F, j, none⟩ y).heap.size) (.slice (some ⟨g, 0, none⟩) (l.length + 1) cap) (l ++ [d]) := by
  have hz := hb.size
  have hza : (w3.alloc o).heap.size = w3.heap.size + 1 := by simp
  have hal : ∀ k i y, w3.cell? ⟨k, i, none⟩ = some y -> (w3.alloc o).cell? ⟨k, i, none⟩ = some y := fun k i y hy => by rw [World.cell?_alloc_past _ _ _ (World.block_lt_of_cell? w3 _ hy)]; exact hy
  have hgF : g ≠ F := by
   rcases hat with q | q
   ·exact (hv g q).2
   ·omega
  obtain ⟨A', c', e1, e2, e3, -⟩ := own_form hown
  injection e1 with e4 e5 e6
  have hcell : ∀ i, i < (l.length + 1) * 6 -> (w5.setCell ⟨F, j, none⟩ y).cell? ⟨g, i, none⟩ = (cs.flatMap DCell.enc ++ x.enc)[i]? := fun i hi => by
   have hc := World.ownsRow.cellAt hown i hi
   have hlen := hown.1
   rw [List.getElem?_eq_getElem (by omega)] at hc ⊢
   exact cell_far hc hgF
  have hen : (cs ++ [x]).flatMap DCell.enc = cs.flatMap DCell.enc ++ x.enc := by rw [List.flatMap_append]; simp
  refine ⟨some ⟨g, 0, none⟩, cap, cs ++ [x], by rw [List.length_append]; rfl, by rw [List.length_append]; simpa [e6] using e2, by rw [e6]; exact e3, ⟨(fun e => by cases e), (fun _ _ _ e => by cases e; rfl)⟩, ?_, fun g' o' e i hi => ?_⟩
  ·refine RowRel.push (DefR.keep (w := w3) (S := fun g => w2.heap.size <= g) hx (fun k hk hlt => by have := hgr.size; simp [World.setCell] at *; omega) (fun k hk i y' hy' => cell_far (hgr.cell (hal k i y' hy') (fun e => by have := (hv k e.symm).1; omega)) (by show k ≠ F; omega))) (h2.mono fun a c q => ?_)
   refine q.keep (fun k hk hlt => by have := hgr.size; simp [World.setCell] at *; omega) (fun k hk i y' hy' => cell_far (hgr.cell (hal k i y' (by rw [hb.cell (p := ⟨k, i, none⟩) (World.block_lt_of_cell? w2 _ hy')]; exact hy')) hk.2.1) hk.2.2)
  ·have hii : i < l.length + 1 := by rw [List.length_append, h2.len] at hi; simpa using hi
   injection e with e
   have e7 : g = g' := by injection e
   have e8 : (0 : Nat) = o' := by injection e
   subst e7; subst e8
   refine ⟨?_, fun k v' hk => ?_⟩
   ·have h0 := hcell (i * 6) (by omega)
    rw [<- hen] at h0
    have := flatMap_at DCell.enc 6 DCell.len (cs ++ [x]) i 0 hi (by omega)
    rw [Nat.add_zero] at this
    rw [this] at h0
    exact World.block_lt_of_cell? _ _ (h0.trans rfl)
   ·have hk6 : k < 6 := by have := (List.getElem?_eq_some_iff.1 hk).1; simpa [DCell.enc] using this
    rw [Nat.zero_add, hcell (i * 6 + k) (by omega), <- hen, flatMap_at DCell.enc 6 DCell.len (cs ++ [x]) i k hi hk6]
    exact hk
end Go.Proofs.YtalgnnidhnhciaaGreatDoor
set_option linter.unusedVariables false
set_option linter.unusedSimpArgs false
namespace Go.Proofs.YtalgnnidhnhciaaGreatDoor
open Go Go.RowKit Go.Proofs
theorem ReadsL.get {w : World} {v : Value} {k : Nat} {ss : List Rg} (h : ReadsL w v k ss) (i : Nat) (hi : i < k) : ∃ g o c u, v = .slice (some ⟨g, o, none⟩) k c /\ w.cell? ⟨g, o + i, none⟩ = some u /\ ReadsP w u (ss.getD i []).length (ss.getD i []) := by
 obtain ⟨_, a, c, e, _, _, _, h4⟩ := h
 obtain ⟨b, off, u, rfl, h5, h6⟩ := h4 i hi
 exact ⟨b, off, c, u, e, h5, h6⟩
theorem SetsRd.reads {w : World} {B Lb : Nat} {v : Value} {ss : List Rg} (h : SetsRd w B Lb v ss) : ReadsL w v ss.length ss := by
 obtain ⟨us, h1, h2⟩ := h
 obtain ⟨A, c, e1, e2, e3, e4⟩ := own_form h1
 refine ⟨rfl, A, c, e1, e2, e3, e4, fun i hi => ?_⟩
 obtain ⟨g, c', u, e, hc, hr⟩ := SetsRd.get ⟨us, h1, h2⟩ i hi
 rw [e1] at e
 injection e with e5 e6 e7
 refine ⟨g, 0, u, e5, by rw [Nat.zero_add]; exact hc, ?_⟩
 have : ss.getD i [] = ss[i] := by simp [List.getD, hi]
 rw [this]; exact hr.1
end Go.Proofs.YtalgnnidhnhciaaGreatDoor
set_option linter.unusedVariables false
set_option linter.unusedSimpArgs false
namespace Go.Proofs.YtalgnnidhnhciaaGreatDoor
open Go Go.RowKit Go.Proofs
theorem rawMk_small (right : Bool) (k n : Int) (p0 p1 : Pat) (h0 : p0.Small) (h1 : p1.Small) : (rawMk right k n p0 p1).Small := by
 have a3 := wthN_lt n 3 (by omega)
 have b3 := wthN_lt (n.tdiv 3) 3 (by omega)
 have a7 := wthN_lt n 7 (by omega)
 simp only [Int.cast_ofNat_Int] at a3 b3 a7
 unfold rawMk
 dsimp only
 split; · trivial
 split; · trivial
 split; · trivial
 split; · exact ⟨h0, h1⟩
 split; · exact ⟨h0, h1⟩
 split; · exact h0
 split; · exact ⟨h0, by omega, by omega⟩
 split
 ·exact h0
 ·exact ⟨h0, by omega⟩
theorem RawP.small (right : Bool) : ∀ (f : Nat) (x : RawP), FewR f x -> (x.pat right).Small := by
 intro f
 induction f with
 | zero => intro x h; simp [FewR, sizeR] at h
 | succ f ih =>
   intro x h
   have hp : ∀ i, (x.part right i).Small := by
    intro i
    unfold RawP.part
    cases hy : x.l[i]? with
    | none => trivial
    | some y =>
      obtain ⟨f', e, hf⟩ := h.part hy
      obtain rfl : f' = f := by omega
      exact ih y hf
   rw [RawP.pat_eq]
   exact rawMk_small right _ _ _ _ (hp 0) (hp 1)
theorem rulesOf_small (l : List RawP) (h : sizeR 6 l <= 30) (ns : List Int) : ∀ r ∈ rulesOf l ns, r.Small := by
 intro r hr
 obtain ⟨j, hj, rfl⟩ := rulesOf_mem hr
 exact ⟨by show ruleN ns j / 3 % 20 < 100; omega, RawP.small false 5 _ (few_get h (i := 2 * j) (by omega)).1, RawP.small true 5 _ (few_get h (i := 2 * j + 1) (by omega)).1⟩
theorem DefsAt.grow {w w' : World} {v : Value} {l : List (Bs × Tree)} (h : DefsAt w (fun g => g < w.heap.size) v l) (hb : Below w.heap.size w w') : DefsAt w' (fun g => g < w'.heap.size) v l :=
 h.keep (fun _ h _ => Nat.lt_of_lt_of_le h hb.size) (fun _ _ _ _ hy => bel_c hb hy)
theorem RulesAt.grow {w w' : World} {v : Value} {l : List RuleT} (h : RulesAt w (fun g => g < w.heap.size) v l) (hb : Below w.heap.size w w') : RulesAt w' (fun g => g < w'.heap.size) v l :=
 h.keep (fun _ h _ => Nat.lt_of_lt_of_le h hb.size) (fun _ _ _ _ hy => bel_c hb hy)
end Go.Proofs.YtalgnnidhnhciaaGreatDoor
set_option linter.unusedVariables false
set_option linter.unusedSimpArgs false
namespace Go.Proofs.YtalgnnidhnhciaaGreatDoor
open Go Go.RowKit Go.Proofs
def RowAny (w : World) (B : Nat) (t : TypeId) (k : Nat) (v : Value) (n : Nat) : Prop := ∃ xs, w.ownsRow B t k v n xs
theorem RowAny.head {w : World} {B : Nat} {t : TypeId} {k : Nat} {v : Value} {n : Nat} (h : RowAny w B t k v n) (hn : 0 < n) : ∃ g c cur, v = .slice (some ⟨g, 0, none⟩) n c /\ B <= g /\ w.heap[g]? = some (.cells cur t (0, 0)) := by
 obtain ⟨xs, _, h⟩ := h
 rcases h with ⟨_, h0⟩ | ⟨g, cap, cur, rfl, hB, hh, r⟩
 ·omega
 ·exact ⟨g, cap, cur, rfl, hB, hh⟩
theorem RowAny.cell {w : World} {B : Nat} {t : TypeId} {k g n c : Nat} (h : RowAny w B t k (.slice (some ⟨g, 0, none⟩) n c) n) (j : Nat) (hj : j < n * k) : (∃ v, w.cell? ⟨g, j, none⟩ = some v) /\ w.frozen? ⟨g, j, none⟩ = false := by
 obtain ⟨xs, h⟩ := h
 have hl := h.1
 refine ⟨⟨xs[j], ?_⟩, World.ownsRow.frozenAt h j⟩
 rw [World.ownsRow.cellAt h j hj, List.getElem?_eq_getElem (by omega)]
theorem RowAny.set {w : World} {B : Nat} {t : TypeId} {k g n c : Nat} (h : RowAny w B t k (.slice (some ⟨g, 0, none⟩) n c) n) (j : Nat) (y : Value) : RowAny (w.setCell ⟨g, j, none⟩ y) B t k (.slice (some ⟨g, 0, none⟩) n c) n := by
 obtain ⟨xs, h⟩ := h
 exact ⟨_, (World.ownsRow.stored h j y).1⟩
theorem RowAny.far {w : World} {B : Nat} {t : TypeId} {k n : Nat} {v : Value} (h : RowAny w B t k v n) {g j : Nat} (hg : v.ownBlock ≠ some g) (y : Value) : RowAny (w.setCell ⟨g, j, none⟩ y) B t k v n := by
 obtain ⟨xs, h⟩ := h
 exact ⟨xs, World.ownsRow.kept h (only_setCell (p := ⟨g, j, none⟩) (only_refl w (some g)) (.inl rfl) y) (.inr hg)⟩
theorem RowAny.any {w : World} {B : Nat} {t : TypeId} {k n : Nat} {v : Value} (h : RowAny w B t k v n) (g j : Nat) (y : Value) : RowAny (w.setCell ⟨g, j, none⟩ y) B t k v n := by
 by_cases hv : v.ownBlock = some g
 ·obtain ⟨xs, h1, h2⟩ := h
  rcases h2 with ⟨rfl, h0⟩ | ⟨g', cap, cur, rfl, r⟩
  ·cases hv
  ·injection hv with hv
   subst hv
   exact RowAny.set ⟨xs, h1, .inr ⟨g', cap, cur, rfl, r⟩⟩ j y
 ·exact h.far hv y
theorem DefsOwn.any {w : World} {B : Nat} {v : Value} {l : List (Bs × Tree)} (h : DefsOwn w B v l) : RowAny w B 37 6 v l.length := by obtain ⟨cs, h1, _⟩ := h; exact ⟨_, h1⟩
theorem RulesOwn.any {w : World} {B : Nat} {v : Value} {l : List RuleT} (h : RulesOwn w B v l) : RowAny w B 56 14 v l.length := by obtain ⟨cs, h1, _⟩ := h; exact ⟨_, h1⟩
theorem RowAny.bel {w w' : World} {B : Nat} {t : TypeId} {k n : Nat} {v : Value} (h : RowAny w B t k v n) (hb : Below w.heap.size w w') : RowAny w' B t k v n := by
 obtain ⟨xs, h⟩ := h
 exact ⟨xs, World.ownsRow.kept h (only_of_below hb none) (none_or v)⟩
structure LoopX (W5 : World) (X nd nr : Nat) (xv yv : Value) (wr : World) : Prop where
 below : Below W5.heap.size W5 wr
 x : Blk wr X 28 #[xv, yv]
 d : RowAny wr W5.heap.size 37 6 xv nd
 r : RowAny wr W5.heap.size 56 14 yv nr
structure LpS (W8 : World) (sv : Value) (nd : Nat) (us : List Value) (wr : World) : Prop where
 below : Below W8.heap.size W8 wr
 row : wr.ownsRow W8.heap.size 32 1 sv nd us
 els : ∀ (i : Nat) (u : Value), us[i]? = some u -> ∃ A m c, u = .slice A m c /\ m <= c /\ c <= maxLen /\ RowAny wr W8.heap.size 66 2 u m
theorem LpS.of {W8 W9 : World} {sv : Value} {ss : List Rg} (h : SetsOwn W9 W8.heap.size sv ss) (hb : Below W8.heap.size W8 W9) : ∃ us, LpS W8 sv ss.length us W9 := by
 obtain ⟨us, h1, h2, _⟩ := h
 refine ⟨us, hb, h1, fun i u hu => ?_⟩
 have hi : i < us.length := (List.getElem?_eq_some_iff.1 hu).1
 have e : us[i] = u := by rw [List.getElem?_eq_getElem hi] at hu; injection hu
 have q := (h2.at_ i hi (by rw [<- h2.len]; exact hi)).1
 rw [e] at q
 obtain ⟨A, c, e2, h3, h4, _⟩ := own_form q
 exact ⟨A, _, c, e2, h3, h4, _, q⟩
end Go.Proofs.YtalgnnidhnhciaaGreatDoor
