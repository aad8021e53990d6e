/- What the law SynSets needs of sets, one more behind them; plain mathematics, and rows that grow. The law SynSets, walked. What the law SynOwn asks of the laws' files; plain. The law SynOwn, walked. -/
import Derived.Test.YtalgnnidhnhciaaGreatDoorShort
import Derived.Test.YtalgnnidhnhciaaGreatDoorULh
import Derived.Test.YtalgnnidhnhciaaGreatDoorUSynKa
import Derived.Deep.RegionHeld3
import Derived.Test.YtalgnnidhnhciaaGreatDoorULj
set_option linter.unusedVariables false
set_option linter.unusedSimpArgs false
set_option linter.unusedVariables false
set_option linter.unusedSimpArgs false
set_option linter.unusedVariables false
set_option linter.unusedSimpArgs false
namespace Go.Proofs.YtalgnnidhnhciaaGreatDoor
open Go Go.RowKit Go.Proofs

/-- A row of sets of the call's own, with a block F apart from all. -/
def DefsOwnF (w : World) (B F : Nat) (v : Value) (l : List (Bs × Tree)) : Prop :=
  ∃ cs : List DCell, w.ownsRow B 37 6 v l.length (cs.flatMap DCell.enc) ∧ RowRel (DefR w (fun g => B ≤ g ∧ some g ≠ v.ownBlock ∧ g ≠ F)) cs l
theorem DefsOwnF.of {w : World} {B F : Nat} {v : Value} {l : List (Bs × Tree)} (h : DefsOwn w B v l) (hF : w.heap.size ≤ F) : DefsOwnF w B F v l := by
  obtain ⟨cs, h1, h2⟩ := h
  exact ⟨cs, h1, h2.mono fun x d q => q.keep (fun g hg hlt => ⟨hg.1, hg.2, by omega⟩) (fun _ _ _ _ h => h)⟩
theorem DefsOwnF.bel {w w' : World} {B F : Nat} {v : Value} {l : List (Bs × Tree)} (h : DefsOwnF w B F v l) (hb : Below w.heap.size w w') : DefsOwnF w' B F v l := by
  obtain ⟨cs, h1, h2⟩ := h
  exact ⟨cs, World.ownsRow.kept h1 (only_of_below hb none) (none_or v), h2.mono fun x d q => q.keep (fun g hg _ => hg) (fun g _ i y hy => by rw [hb.cell (p := ⟨g, i, none⟩) (World.block_lt_of_cell? w _ hy)]; exact hy)⟩
/-- One more, then a cell of F turned: the row reads. -/
theorem DefsOwnF.more {w2 w3 w5 : World} {B F g cap : Nat} {v : Value} {l : List (Bs × Tree)} {cs : List DCell} {x : DCell} {d : Bs × Tree} (h2 : RowRel (DefR w2 (fun g => B ≤ g ∧ some g ≠ v.ownBlock ∧ g ≠ F)) cs l) (hv : ∀ k, v.ownBlock = some k → k < w2.heap.size ∧ k ≠ F) (hF : F < w2.heap.size)
    (hb : Below w2.heap.size w2 w3) (o : Obj) (hgr : (w3.alloc o).grownBy w5 v.ownBlock) (hat : v.ownBlock = some g ∨ g = (w3.alloc o).heap.size)
    (hown : w5.ownsRow B 37 6 (.slice (some ⟨g, 0, none⟩) (l.length + 1) cap) (l.length + 1) (cs.flatMap DCell.enc ++ x.enc)) (hx : x.nm0.data.toList = d.1 ∧ TreeV false w3 (fun g => w2.heap.size ≤ g) x.val d.2) (j : Nat) (y : Value) :
    DefsAt (w5.setCell ⟨F, j, none⟩ y) (fun g => g < (w5.setCell ⟨F, j, none⟩ y).heap.size) (.slice (some ⟨g, 0, none⟩) (l.length + 1) cap) (l ++ [d]) := by
  have hz := hb.size
  have hza : (w3.alloc o).heap.size = w3.heap.size + 1 := by simp
  have hal : ∀ k i y, w3.cell? ⟨k, i, none⟩ = some y → (w3.alloc o).cell? ⟨k, i, none⟩ = some y := fun k i y hy => by rw [World.cell?_alloc_past _ _ _ (World.block_lt_of_cell? w3 _ hy)]; exact hy
  have hgF : g ≠ F := by
    rcases hat with q | q
    · exact (hv g q).2
    · omega
  obtain ⟨A', c', e1, e2, e3, -⟩ := own_form hown
  injection e1 with e4 e5 e6
  have hcell : ∀ i, i < (l.length + 1) * 6 → (w5.setCell ⟨F, j, none⟩ y).cell? ⟨g, i, none⟩ = (cs.flatMap DCell.enc ++ x.enc)[i]? := fun i hi => by
    have hc := World.ownsRow.cellAt hown i hi
    have hlen := hown.1
    rw [List.getElem?_eq_getElem (by omega)] at hc ⊢
    exact cell_far hc hgF
  have hen : (cs ++ [x]).flatMap DCell.enc = cs.flatMap DCell.enc ++ x.enc := by rw [List.flatMap_append]; simp
  refine ⟨some ⟨g, 0, none⟩, cap, cs ++ [x], by rw [List.length_append]; rfl, by rw [List.length_append]; simpa [e6] using e2, by rw [e6]; exact e3, ⟨(fun e => by cases e), (fun _ _ _ e => by cases e; rfl)⟩, ?_, fun g' o' e i hi => ?_⟩
  · refine RowRel.push (DefR.keep (w := w3) (S := fun g => w2.heap.size ≤ g) hx (fun k hk hlt => by have := hgr.size; simp [World.setCell] at *; omega) (fun k hk i y' hy' => cell_far (hgr.cell (hal k i y' hy') (fun e => by have := (hv k e.symm).1; omega)) (by show k ≠ F; omega))) (h2.mono fun a c q => ?_)
    refine q.keep (fun k hk hlt => by have := hgr.size; simp [World.setCell] at *; omega) (fun k hk i y' hy' => cell_far (hgr.cell (hal k i y' (by rw [hb.cell (p := ⟨k, i, none⟩) (World.block_lt_of_cell? w2 _ hy')]; exact hy')) hk.2.1) hk.2.2)
  · have hii : i < l.length + 1 := by rw [List.length_append, h2.len] at hi; simpa using hi
    injection e with e
    have e7 : g = g' := by injection e
    have e8 : (0 : Nat) = o' := by injection e
    subst e7; subst e8
    refine ⟨?_, fun k v' hk => ?_⟩
    · have h0 := hcell (i * 6) (by omega)
      rw [← hen] at h0
      have := flatMap_at DCell.enc 6 DCell.len (cs ++ [x]) i 0 hi (by omega)
      rw [Nat.add_zero] at this
      rw [this] at h0
      exact World.block_lt_of_cell? _ _ (h0.trans rfl)
    · have hk6 : k < 6 := by have := (List.getElem?_eq_some_iff.1 hk).1; simpa [DCell.enc] using this
      rw [Nat.zero_add, hcell (i * 6 + k) (by omega), ← hen, flatMap_at DCell.enc 6 DCell.len (cs ++ [x]) i k hi hk6]
      exact hk
end Go.Proofs.YtalgnnidhnhciaaGreatDoor

set_option linter.unusedVariables false
set_option linter.unusedSimpArgs false
namespace Go.Proofs.YtalgnnidhnhciaaGreatDoor
open Go Go.RowKit Go.Proofs

theorem below_lt {B : Nat} {w w' : World} (h : Below B w w') {g i : Nat} {x : Value} (hc : w.cell? ⟨g, i, none⟩ = some x) (hg : g < B) : w'.cell? ⟨g, i, none⟩ = some x := by rw [h.cell (p := ⟨g, i, none⟩) hg]; exact hc
theorem bel_cell {w w' : World} (h : Below w.heap.size w w') {g i : Nat} {x : Value} (hc : w.cell? ⟨g, i, none⟩ = some x) : w'.cell? ⟨g, i, none⟩ = some x := below_lt h hc (World.block_lt_of_cell? w _ hc)
theorem SetsOwn.form' {w : World} {B : Nat} {v : Value} {ss : List Rg} (h : SetsOwn w B v ss) : ∃ A c, v = .slice A ss.length c ∧ ss.length ≤ c ∧ c ≤ maxLen := by
  obtain ⟨us, h1, _⟩ := h
  obtain ⟨A, c, e, h3, h4, _⟩ := own_form h1
  exact ⟨A, c, e, h3, h4⟩
theorem ReadsL.get {w : World} {v : Value} {k : Nat} {ss : List Rg} (h : ReadsL w v k ss) (i : Nat) (hi : i < k) : ∃ g o c u, v = .slice (some ⟨g, o, none⟩) k c ∧ w.cell? ⟨g, o + i, none⟩ = some u ∧ ReadsP w u (ss.getD i []).length (ss.getD i []) := by
  obtain ⟨_, a, c, e, _, _, _, h4⟩ := h
  obtain ⟨b, off, u, rfl, h5, h6⟩ := h4 i hi
  exact ⟨b, off, c, u, e, h5, h6⟩
theorem SetsRd.reads {w : World} {B Lb : Nat} {v : Value} {ss : List Rg} (h : SetsRd w B Lb v ss) : ReadsL w v ss.length ss := by
  obtain ⟨us, h1, h2⟩ := h
  obtain ⟨A, c, e1, e2, e3, e4⟩ := own_form h1
  refine ⟨rfl, A, c, e1, e2, e3, e4, fun i hi => ?_⟩
  obtain ⟨g, c', u, e, hc, hr⟩ := SetsRd.get ⟨us, h1, h2⟩ i hi
  rw [e1] at e
  injection e with e5 e6 e7
  refine ⟨g, 0, u, e5, by rw [Nat.zero_add]; exact hc, ?_⟩
  have : ss.getD i [] = ss[i] := by simp [List.getD, hi]
  rw [this]; exact hr.1
end Go.Proofs.YtalgnnidhnhciaaGreatDoor

set_option linter.unusedVariables false
set_option linter.unusedSimpArgs false
namespace Go.Proofs.YtalgnnidhnhciaaGreatDoor
open Go Go.RowKit Go.Proofs

theorem clsOf_codes (D : List Bs) : ∀ (f n : Nat), (clsOf D f n).Codes := by
  intro f
  induction f with
  | zero => intro n; unfold clsOf; exact ⟨code_ok _ (by omega), code_ok _ (by omega)⟩
  | succ f ih =>
    intro n
    unfold clsOf
    split; · exact ⟨code_ok _ (by omega), code_ok _ (by omega)⟩
    split; · exact ⟨code_ok _ (by omega), code_ok _ (by omega)⟩
    split; · trivial
    split; · trivial
    split; · exact ih _
    split; · exact ⟨ih _, ih _⟩
    split; · exact ⟨ih _, ih _⟩
    exact ⟨ih _, ih _⟩
theorem defs4_codes : ∀ d ∈ defs4, d.c.Codes := by
  intro d hd
  simp only [defs4, List.mem_cons, List.not_mem_nil, or_false] at hd
  rcases hd with rfl | rfl | rfl | rfl
  · exact ⟨code_ok _ (by omega), code_ok _ (by omega)⟩
  · exact ⟨code_ok _ (by omega), code_ok _ (by omega)⟩
  · exact ⟨⟨code_ok _ (by omega), code_ok _ (by omega)⟩, ⟨code_ok _ (by omega), code_ok _ (by omega)⟩⟩
  · exact ⟨trivial, trivial⟩
theorem addDef_codes {l : List DefP} (h : ∀ d ∈ l, d.c.Codes) (i : Nat) (z : Int) : ∀ d ∈ addDef l i z, d.c.Codes := by
  intro d hd
  rcases List.mem_append.1 hd with hd | hd
  · exact h d hd
  · obtain rfl : d = ⟨nm6 i, _⟩ := List.mem_singleton.1 hd
    exact clsOf_codes _ _ _
theorem defsOf_codes (ds : List Int) : ∀ d ∈ defsOf ds, d.c.Codes := by
  match ds with
  | [] => exact defs4_codes
  | [x] => exact addDef_codes defs4_codes 0 x
  | x :: y :: _ => exact addDef_codes (addDef_codes defs4_codes 0 x) 1 y
theorem rawMk_small (right : Bool) (k n : Int) (p0 p1 : Pat) (h0 : p0.Small) (h1 : p1.Small) : (rawMk right k n p0 p1).Small := by
  have a3 := wthN_lt n 3 (by omega)
  have b3 := wthN_lt (n.tdiv 3) 3 (by omega)
  have a7 := wthN_lt n 7 (by omega)
  simp only [Int.cast_ofNat_Int] at a3 b3 a7
  unfold rawMk
  dsimp only
  split; · trivial
  split; · trivial
  split; · trivial
  split; · exact ⟨h0, h1⟩
  split; · exact ⟨h0, h1⟩
  split; · exact h0
  split; · exact ⟨h0, by omega, by omega⟩
  split
  · exact h0
  · exact ⟨h0, by omega⟩
theorem RawP.small (right : Bool) : ∀ (f : Nat) (x : RawP), FewR f x → (x.pat right).Small := by
  intro f
  induction f with
  | zero => intro x h; simp [FewR, sizeR] at h
  | succ f ih =>
    intro x h
    have hp : ∀ i, (x.part right i).Small := by
      intro i
      unfold RawP.part
      cases hy : x.l[i]? with
      | none => trivial
      | some y =>
        obtain ⟨f', e, hf⟩ := h.part hy
        obtain rfl : f' = f := by omega
        exact ih y hf
    rw [RawP.pat_eq]
    exact rawMk_small right _ _ _ _ (hp 0) (hp 1)
theorem rulesOf_small (l : List RawP) (h : sizeR 6 l ≤ 30) (ns : List Int) : ∀ r ∈ rulesOf l ns, r.Small := by
  intro r hr
  obtain ⟨j, hj, rfl⟩ := rulesOf_mem hr
  exact ⟨by show ruleN ns j / 3 % 20 < 100; omega, RawP.small false 5 _ (few_get h (i := 2 * j) (by omega)).1, RawP.small true 5 _ (few_get h (i := 2 * j + 1) (by omega)).1⟩
/-- A world that has only grown keeps what lies in it. -/
theorem DefsAt.grow {w w' : World} {v : Value} {l : List (Bs × Tree)} (h : DefsAt w (fun g => g < w.heap.size) v l) (hb : Below w.heap.size w w') : DefsAt w' (fun g => g < w'.heap.size) v l :=
  h.keep (fun _ h _ => Nat.lt_of_lt_of_le h hb.size) (fun _ _ _ _ hy => bel_c hb hy)
theorem RulesAt.grow {w w' : World} {v : Value} {l : List RuleT} (h : RulesAt w (fun g => g < w.heap.size) v l) (hb : Below w.heap.size w w') : RulesAt w' (fun g => g < w'.heap.size) v l :=
  h.keep (fun _ h _ => Nat.lt_of_lt_of_le h hb.size) (fun _ _ _ _ hy => bel_c hb hy)
end Go.Proofs.YtalgnnidhnhciaaGreatDoor

set_option linter.unusedVariables false
set_option linter.unusedSimpArgs false
namespace Go.Proofs.YtalgnnidhnhciaaGreatDoor
open Go Go.RowKit Go.Proofs

theorem blk_ne {w : World} {X g : Nat} {T T' : TypeId} {cs cur : Array Value} {z : Nat × Nat} (h : Blk w X T cs) (h' : w.heap[g]? = some (.cells cur T' z)) (hT : T ≠ T') : X ≠ g := fun e => by
  subst e
  unfold Blk at h
  rw [h'] at h
  injection h with h
  injection h with _ h _
  exact hT h.symm
/-- A row of the call's own, whatever it holds. -/
def RowAny (w : World) (B : Nat) (t : TypeId) (k : Nat) (v : Value) (n : Nat) : Prop := ∃ xs, w.ownsRow B t k v n xs
theorem RowAny.head {w : World} {B : Nat} {t : TypeId} {k : Nat} {v : Value} {n : Nat} (h : RowAny w B t k v n) (hn : 0 < n) : ∃ g c cur, v = .slice (some ⟨g, 0, none⟩) n c ∧ B ≤ g ∧ w.heap[g]? = some (.cells cur t (0, 0)) := by
  obtain ⟨xs, _, h⟩ := h
  rcases h with ⟨_, h0⟩ | ⟨g, cap, cur, rfl, hB, hh, r⟩
  · omega
  · exact ⟨g, cap, cur, rfl, hB, hh⟩
theorem RowAny.cell {w : World} {B : Nat} {t : TypeId} {k g n c : Nat} (h : RowAny w B t k (.slice (some ⟨g, 0, none⟩) n c) n) (j : Nat) (hj : j < n * k) : (∃ v, w.cell? ⟨g, j, none⟩ = some v) ∧ w.frozen? ⟨g, j, none⟩ = false := by
  obtain ⟨xs, h⟩ := h
  have hl := h.1
  refine ⟨⟨xs[j], ?_⟩, World.ownsRow.frozenAt h j⟩
  rw [World.ownsRow.cellAt h j hj, List.getElem?_eq_getElem (by omega)]
theorem RowAny.set {w : World} {B : Nat} {t : TypeId} {k g n c : Nat} (h : RowAny w B t k (.slice (some ⟨g, 0, none⟩) n c) n) (j : Nat) (y : Value) : RowAny (w.setCell ⟨g, j, none⟩ y) B t k (.slice (some ⟨g, 0, none⟩) n c) n := by
  obtain ⟨xs, h⟩ := h
  exact ⟨_, (World.ownsRow.stored h j y).1⟩
theorem RowAny.far {w : World} {B : Nat} {t : TypeId} {k n : Nat} {v : Value} (h : RowAny w B t k v n) {g j : Nat} (hg : v.ownBlock ≠ some g) (y : Value) : RowAny (w.setCell ⟨g, j, none⟩ y) B t k v n := by
  obtain ⟨xs, h⟩ := h
  exact ⟨xs, World.ownsRow.kept h (only_setCell (p := ⟨g, j, none⟩) (only_refl w (some g)) (.inl rfl) y) (.inr hg)⟩
/-- A store at a block of this kind keeps a row of this kind, be it that block's or another's. -/
theorem RowAny.any {w : World} {B : Nat} {t : TypeId} {k n : Nat} {v : Value} (h : RowAny w B t k v n) (g j : Nat) (y : Value) : RowAny (w.setCell ⟨g, j, none⟩ y) B t k v n := by
  by_cases hv : v.ownBlock = some g
  · obtain ⟨xs, h1, h2⟩ := h
    rcases h2 with ⟨rfl, h0⟩ | ⟨g', cap, cur, rfl, r⟩
    · cases hv
    · injection hv with hv
      subst hv
      exact RowAny.set ⟨xs, h1, .inr ⟨g', cap, cur, rfl, r⟩⟩ j y
  · exact h.far hv y
theorem RowAny.farT {w : World} {B : Nat} {t t' : TypeId} {k n : Nat} {v : Value} (h : RowAny w B t k v n) {g : Nat} {cur : Array Value} {z : Nat × Nat} (hg : w.heap[g]? = some (.cells cur t' z)) (hT : t ≠ t') (j : Nat) (y : Value) : RowAny (w.setCell ⟨g, j, none⟩ y) B t k v n := by
  refine h.far (fun e => ?_) y
  obtain ⟨xs, _, h2⟩ := h
  rcases h2 with ⟨rfl, h0⟩ | ⟨g', cap, cur', rfl, _, hh, _⟩
  · cases e
  · injection e with e
    have e' : g' = g := e
    rw [e', hg] at hh
    injection hh with hh
    injection hh with _ hh _
    exact hT hh.symm
theorem DefsOwn.any {w : World} {B : Nat} {v : Value} {l : List (Bs × Tree)} (h : DefsOwn w B v l) : RowAny w B 37 6 v l.length := by obtain ⟨cs, h1, _⟩ := h; exact ⟨_, h1⟩
theorem RulesOwn.any {w : World} {B : Nat} {v : Value} {l : List RuleT} (h : RulesOwn w B v l) : RowAny w B 56 14 v l.length := by obtain ⟨cs, h1, _⟩ := h; exact ⟨_, h1⟩
theorem RowAny.bel {w w' : World} {B : Nat} {t : TypeId} {k n : Nat} {v : Value} (h : RowAny w B t k v n) (hb : Below w.heap.size w w') : RowAny w' B t k v n := by
  obtain ⟨xs, h⟩ := h
  exact ⟨xs, World.ownsRow.kept h (only_of_below hb none) (none_or v)⟩
theorem own_farT {w : World} {B : Nat} {t t' : TypeId} {k n : Nat} {v : Value} {xs : List Value} (h : w.ownsRow B t k v n xs) {g : Nat} {cur : Array Value} {z : Nat × Nat} (hg : w.heap[g]? = some (.cells cur t' z)) (hT : t ≠ t') (j : Nat) (y : Value) : (w.setCell ⟨g, j, none⟩ y).ownsRow B t k v n xs := by
  refine World.ownsRow.kept h (only_setCell (p := ⟨g, j, none⟩) (only_refl w (some g)) (.inl rfl) y) (.inr fun e => ?_)
  obtain ⟨_, h2⟩ := h
  rcases h2 with ⟨rfl, h0⟩ | ⟨g', cap, cur', rfl, _, hh, _⟩
  · cases e
  · injection e with e
    have e' : g' = g := e
    rw [e', hg] at hh
    injection hh with hh
    injection hh with _ hh _
    exact hT hh.symm
/-- What was read, its parts turned. -/
structure LoopX (W5 : World) (X nd nr : Nat) (xv yv : Value) (wr : World) : Prop where
  below : Below W5.heap.size W5 wr
  x : Blk wr X 28 #[xv, yv]
  d : RowAny wr W5.heap.size 37 6 xv nd
  r : RowAny wr W5.heap.size 56 14 yv nr
/-- The sets that were told, their ranges turned. -/
structure LpS (W8 : World) (sv : Value) (nd : Nat) (us : List Value) (wr : World) : Prop where
  below : Below W8.heap.size W8 wr
  row : wr.ownsRow W8.heap.size 32 1 sv nd us
  els : ∀ (i : Nat) (u : Value), us[i]? = some u → ∃ A m c, u = .slice A m c ∧ m ≤ c ∧ c ≤ maxLen ∧ RowAny wr W8.heap.size 66 2 u m
theorem LpS.of {W8 W9 : World} {sv : Value} {ss : List Rg} (h : SetsOwn W9 W8.heap.size sv ss) (hb : Below W8.heap.size W8 W9) : ∃ us, LpS W8 sv ss.length us W9 := by
  obtain ⟨us, h1, h2, _⟩ := h
  refine ⟨us, hb, h1, fun i u hu => ?_⟩
  have hi : i < us.length := (List.getElem?_eq_some_iff.1 hu).1
  have e : us[i] = u := by rw [List.getElem?_eq_getElem hi] at hu; injection hu
  have q := (h2.at_ i hi (by rw [← h2.len]; exact hi)).1
  rw [e] at q
  obtain ⟨A, c, e2, h3, h4, _⟩ := own_form q
  exact ⟨A, _, c, e2, h3, h4, _, q⟩
set_option maxRecDepth 100000 in
set_option maxHeartbeats 16000000 in
theorem synOwn_walk (lv : Value) (l : List RawP) (a1 : Option Addr) (len1 cap1 : Nat) (z1 : List Int) (a2 : Option Addr) (len2 cap2 : Nat) (z2 : List Int) (w : World) (w0 : RawL w lv l) (w1 : IsRow .i64 w a1 len1 cap1 z1) (w2 : IsRow .i64 w a2 len2 cap2 z2) (hE : ErrV w) (hT : TabD w) :
    Calls Tryz.prog 9 #[lv, .slice a1 len1 cap1, .slice a2 len2 cap2] w fun e w' => e = .returned (.bool true) ∧ Below w.heap.size w w' := by
  have hN := IntsR.of_row w1
  have hD := IntsR.of_row w2
  obtain ⟨ns, hns⟩ : ∃ ns, z1.take len1 = ns := ⟨_, rfl⟩
  obtain ⟨ds, hds⟩ : ∃ ns, z2.take len2 = ns := ⟨_, rfl⟩
  rw [hns] at hN
  rw [hds] at hD
  have hL := w0
  obtain ⟨LA, ll, lc, rfl, -⟩ := w0
  have HKN := Lib.hid (known5_ok w hE hT); have HN := Lib.hid hN; have HD := Lib.hid hD; have HL := Lib.hid hL; have HE := Lib.hid hE; have HT := Lib.hid hT
  clear hE hT w1 w2 hns hds hN hD hL
  go_enter Tryz.func9, Tryz.ntmps9
  go_wp2_with fail
  refine HKN.out.mono ?_
  rintro e W1 ⟨rfl, hb1⟩
  have hfw := few_any l W1 _ (HL.out.below hb1)
  have HB1 := Lib.hid hb1; clear hb1 HKN
  by_cases hfew : sizeR 6 l ≤ 30
  · have hf : fewB l = true := by unfold fewB; simpa using hfew
    rw [hf] at hfw
    have HFW := Lib.hid hfw; have HFEW := Lib.hid hfew
    clear hfw hf hfew
    go_wp2_with fail
    refine HFW.out.mono ?_
    rintro e W ⟨rfl, rfl⟩
    have hfile := fun W (hW : Below w.heap.size w W) => file_made l HFEW.out ns ds W _ _ _ (HL.out.below hW) (HN.out.below hW) (HD.out.below hW)
    have HFI := Lib.hid hfile
    clear hfile HFW
    -- the file, said once
    obtain ⟨DF, hDF⟩ : ∃ x, defsOf ds = x := ⟨_, rfl⟩
    obtain ⟨RL, hRL⟩ : ∃ x, rulesOf l ns = x := ⟨_, rfl⟩
    have hdl := defsOf_len ds
    have hrl := rulesOf_len l ns
    have hcod := defsOf_codes ds
    have hsml := rulesOf_small l HFEW.out ns
    have htxl := fileOf_text HFEW.out ns ds
    have hprs := fileOf_parse HFEW.out ns ds
    have hdok := defsOf_ok ds
    rw [hDF] at hdl hcod htxl hprs hdok
    rw [hRL] at hrl hsml htxl hprs
    have hFI := HFI.out
    rw [hDF, hRL] at hFI
    have HFI := Lib.hid hFI
    obtain ⟨nd, hnd⟩ : ∃ x, DF.length = x := ⟨_, rfl⟩
    obtain ⟨nr, hnr⟩ : ∃ x, RL.length = x := ⟨_, rfl⟩
    rw [hnd] at hdl
    rw [hnr] at hrl
    obtain ⟨hd4, hd6⟩ := hdl
    have hnem : defsText DF ++ rulesText RL ≠ [] := by
      intro h
      have h2 := (List.append_eq_nil_iff.1 h).1
      cases hq : DF with
      | nil => rw [hq] at hnd; simp at hnd; omega
      | cons a b => rw [hq] at h2; simp [defsText, DefP.text, wClass] at h2
    obtain ⟨TX, hTX⟩ : ∃ x, defsText DF ++ rulesText RL = x := ⟨_, rfl⟩
    have htxt := fun W hW ds' rs' h1 h2 => text_ok DF RL hcod hsml hnem (by omega) (by omega) (by omega) W hW ds' rs' h1 h2
    rw [hTX] at htxt hprs htxl
    have hld : (DF.map DefP.tree).length = nd := by rw [List.length_map, hnd]
    have hlr : (RL.map RuleP.tree).length = nr := by rw [List.length_map, hnr]
    have HTXT := Lib.hid htxt; have HPRS := Lib.hid hprs; have HTXL := Lib.hid htxl; have HND := Lib.hid hnd; have HNR := Lib.hid hnr; have HLD := Lib.hid hld; have HLR := Lib.hid hlr; have HDOK := Lib.hid hdok
    clear htxt hprs htxl hnd hnr hld hlr hTX hnem hcod hsml hdok hFI hDF hRL HN HD HL
    go_wp2_with fail
    refine (HFI.out W1 HB1.out).mono ?_
    rintro e W2 ⟨d1, r1, rfl, hd1, hr1, hb2⟩
    have hB2 : Below w.heap.size w W2 := HB1.out.trans (hb2.mono HB1.out.size)
    have HD1 := Lib.hid hd1.at_; have HR1 := Lib.hid hr1.at_; have HB2 := Lib.hid hB2
    have HDN := Lib.hid hd1.form
    obtain ⟨dA, dc, rfl, -, -, -⟩ := hd1.form
    obtain ⟨rA, rc, rfl, -, -, -⟩ := hr1.form
    rw [HLD.out] at HD1 HDN ⊢
    rw [HLR.out] at HR1 ⊢
    clear hd1 hr1 hb2 hB2
    go_wp2_with fail
    refine (HFI.out W2 HB2.out).mono ?_
    rintro e W3 ⟨d2, r2, rfl, hd2, hr2, hb3⟩
    have hB3 : Below w.heap.size w W3 := HB2.out.trans (hb3.mono HB2.out.size)
    have HD2 := Lib.hid hd2.at_; have HR2 := Lib.hid hr2.at_; have HB3 := Lib.hid hB3
    have hd13 := HD1.out.grow hb3; have hr13 := HR1.out.grow hb3
    have HD3 := Lib.hid hd13; have HR3 := Lib.hid hr13
    obtain ⟨eA, ec, rfl, -, -, -⟩ := hd2.form
    obtain ⟨sA, sc, rfl, -, -, -⟩ := hr2.form
    rw [HLD.out] at HD2 ⊢
    rw [HLR.out] at HR2 ⊢
    clear hd2 hr2 hb3 hB3 HD1 HR1 hd13 hr13 HFI HB1 HB2
    go_wp2_with fail
    obtain ⟨W4, hW4⟩ : ∃ W4, (W3.alloc (.cells #[.slice dA nd dc, .slice rA nr rc] 28)).alloc (.cells #[.slice eA nd ec, .slice sA nr sc] 28) = W4 := ⟨_, rfl⟩
    have hb34 : Below W3.heap.size W3 W4 := by rw [← hW4]; exact ((Below.refl _ _).alloc (Nat.le_refl _) _).alloc (by simp) _
    have kf : Blk W4 W3.heap.size 28 #[.slice dA nd dc, .slice rA nr rc] := by rw [← hW4]; exact Blk.alloc (Blk.new W3 _ _) _
    have kg : Blk W4 (W3.heap.size + 1) 28 #[.slice eA nd ec, .slice sA nr sc] := by rw [← hW4]; exact blk_second W3 _ _ _
    rw [hW4]
    obtain ⟨G, hG⟩ : ∃ x, W3.heap.size + 1 = x := ⟨_, rfl⟩
    obtain ⟨F, hF⟩ : ∃ x, W3.heap.size = x := ⟨_, rfl⟩
    rw [hG] at kg
    rw [hF] at kf
    rw [hG, hF]
    have hB4 : Below w.heap.size w W4 := HB3.out.trans (hb34.mono HB3.out.size)
    have HDA := Lib.hid (HD3.out.grow hb34); have HRA := Lib.hid (HR3.out.grow hb34); have HDB := Lib.hid (HD2.out.grow hb34); have HRB := Lib.hid (HR2.out.grow hb34)
    have ht := HTXT.out W4 (HT.out.below hB4 HT.out.lt) _ _ HDA.out HRA.out
    obtain ⟨tx, htx⟩ : ∃ x : ByteArray, (⟨TX.toArray⟩ : ByteArray) = x := ⟨_, rfl⟩
    have htd : tx.data.toList = TX := by rw [← htx]
    rw [htx] at ht
    have HTT := Lib.hid ht; have HTD := Lib.hid htd; have HB4 := Lib.hid hB4; have KF := Lib.hid kf; have KG := Lib.hid kg
    clear ht htd htx hB4 kf kg hG hF hW4 hb34 HD3 HR3 HD2 HR2 HB3 HTXT
    refine HTT.out.mono ?_
    rintro e W5 ⟨rfl, hb5⟩
    have hB5 : Below w.heap.size w W5 := HB4.out.trans (hb5.mono HB4.out.size)
    have HDA5 := Lib.hid (HDA.out.grow hb5); have HRA5 := Lib.hid (HRA.out.grow hb5); have HDB5 := Lib.hid (HDB.out.grow hb5); have HRB5 := Lib.hid (HRB.out.grow hb5)
    have KF5 := Lib.hid (Blk.below KF.out hb5 KF.out.lt); have KG5 := Lib.hid (Blk.below KG.out hb5 KG.out.lt)
    have HP := Lib.hid (parse_any W5 tx (HE.out.below hB5)); have HB5 := Lib.hid hB5
    clear hb5 hB5 HTT HDA HRA HDB HRB KF KG HB4
    go_wp2_with fail
    refine HP.out.mono ?_
    rintro e W6 ⟨xd, xr, P, rfl, hP, hxd, hxr, hb6⟩
    rw [HTD.out, HPRS.out] at hP
    subst hP
    dsimp only at hxd hxr ⊢
    have hda := hxd.any; have hra := hxr.any
    obtain ⟨xA, xc, rfl, hx1, hx2, -⟩ := hxd.form
    obtain ⟨yA, yc, rfl, hy1, hy2, -⟩ := hxr.form
    rw [HLD.out] at hx1 hda ⊢
    rw [HLR.out] at hy1 hra ⊢
    unfold maxLen at hx2 hy2
    have HDA6 := Lib.hid hda; have HRA6 := Lib.hid hra; have HB6 := Lib.hid hb6
    clear hxd hxr hda hra hb6 HP
    go_wp2_with fail
    obtain ⟨W7, hW7⟩ : ∃ W7, W6.alloc (.cells #[.slice xA nd xc, .slice yA nr yc] 28) = W7 := ⟨_, rfl⟩
    have hb67 : Below W6.heap.size W6 W7 := by rw [← hW7]; exact (Below.refl _ _).alloc (Nat.le_refl _) _
    have kx : Blk W7 W6.heap.size 28 #[.slice xA nd xc, .slice yA nr yc] := by rw [← hW7]; exact Blk.new _ _ _
    rw [hW7]
    obtain ⟨X, hX⟩ : ∃ x, W6.heap.size = x := ⟨_, rfl⟩
    rw [hX] at kx ⊢
    have HX0 := Lib.hid (show LoopX W5 X nd nr (.slice xA nd xc) (.slice yA nr yc) W7 from ⟨HB6.out.trans (hb67.mono HB6.out.size), kx, HDA6.out.bel hb67, HRA6.out.bel hb67⟩)
    clear hb67 kx hX hW7 HDA6 HRA6 HB6
    go_loopg [13] nd (fun gk vi wr => ∃ i : Nat, vi = .int .i64 i ∧ gk = nd - i ∧ i ≤ nd ∧ Hid (LoopX W5 X nd nr (.slice xA nd xc) (.slice yA nr yc) wr))
    case atStart => exact ⟨0, rfl, rfl, Nat.zero_le _, HX0⟩
    case round =>
      clear HX0
      obtain ⟨i, rfl, hgk, hin, HX⟩ := hrel
      have HGK := Lib.hid hgk; clear hgk
      have i0 : (0 : Int) ≤ (i : Int) := Int.natCast_nonneg _
      have b0 := Blk.cell HX.out.x 0
      simp only [List.getElem?_toArray, List.getElem?_cons_zero, List.getElem?_cons_succ] at b0
      by_cases hlt : i < nd
      · have i1 : (i : Int) < (nd : Int) := by omega
        obtain ⟨g, c, cur, e, hgB, hgh⟩ := HX.out.d.head (by omega)
        injection e with e1 e2 e3
        subst e1
        clear e2 e3
        obtain ⟨⟨v0, hv0⟩, hf0⟩ := HX.out.d.cell (i * 6) (by omega)
        have HXN := Lib.hid (show LoopX W5 X nd nr (.slice (some ⟨g, 0, none⟩) nd xc) (.slice yA nr yc) (wr.setCell ⟨g, i * 6, none⟩ (.string ⟨#[63]⟩)) from ⟨HX.out.below.setCell (p := ⟨g, i * 6, none⟩) hgB _, Blk.far HX.out.x (p := ⟨g, i * 6, none⟩) (blk_ne HX.out.x hgh (by decide)) _, HX.out.d.set _ _, HX.out.r.farT hgh (by decide) _ _⟩)
        clear HX hgB hgh
        go_wp2_with fail
        go_roundg (nd - (i + 1))
        case measure => have := HGK.out; omega
        case rel => exact ⟨i + 1, by go_num, rfl, hlt, HXN⟩
      · obtain rfl : i = nd := by omega
        clear HGK
        go_wp2_with fail
        clear b0
        go_loopg [14] nr (fun gk vi wr => ∃ j : Nat, vi = .int .i64 j ∧ gk = nr - j ∧ j ≤ nr ∧ Hid (LoopX W5 X i nr (.slice xA i xc) (.slice yA nr yc) wr))
        case atStart => exact ⟨0, rfl, rfl, Nat.zero_le _, HX⟩
        case round =>
          clear HX
          obtain ⟨j, rfl, hgk, hjn, HX⟩ := hrel
          have HGK := Lib.hid hgk; clear hgk
          have j0 : (0 : Int) ≤ (j : Int) := Int.natCast_nonneg _
          have b1 := Blk.cell HX.out.x 1
          simp only [List.getElem?_toArray, List.getElem?_cons_zero, List.getElem?_cons_succ] at b1
          by_cases hlt2 : j < nr
          · have j1 : (j : Int) < (nr : Int) := by omega
            obtain ⟨g, c, cur, e, hgB, hgh⟩ := HX.out.r.head (by omega)
            injection e with e1 e2 e3
            subst e1
            clear e2 e3
            obtain ⟨⟨v0, hv0⟩, hf0⟩ := HX.out.r.cell (j * 14 + 2) (by omega)
            have HXN := Lib.hid (show LoopX W5 X i nr (.slice xA i xc) (.slice (some ⟨g, 0, none⟩) nr yc) (wr.setCell ⟨g, j * 14 + 2, none⟩ (.int .i64 3)) from ⟨HX.out.below.setCell (p := ⟨g, j * 14 + 2, none⟩) hgB _, Blk.far HX.out.x (p := ⟨g, j * 14 + 2, none⟩) (blk_ne HX.out.x hgh (by decide)) _, HX.out.d.farT hgh (by decide) _ _, HX.out.r.set _ _⟩)
            clear HX hgB hgh
            go_wp2_with fail
            go_roundg (nr - (j + 1))
            case measure => have := HGK.out; omega
            case rel => exact ⟨j + 1, by go_num, rfl, hlt2, HXN⟩
          · obtain rfl : j = nr := by omega
            clear HGK
            have HB8 := Lib.hid HX.out.below
            obtain ⟨W8, hW8⟩ : ∃ x, x = wr := ⟨_, rfl⟩
            subst hW8
            have kf8 := Blk.below KF5.out HB8.out KF5.out.lt
            have f0 := Blk.cell kf8 0; have f1 := Blk.cell kf8 1
            simp only [List.getElem?_toArray, List.getElem?_cons_zero, List.getElem?_cons_succ] at f0 f1
            have hst := fun W (hW : Below W5.heap.size W5 W) => sets_ok DF (by rw [HND.out]; omega) W (.slice dA i dc) rA j rc (HDA5.out.grow hW) (fun A m c e h => by obtain ⟨A', c', e', -, -, hn⟩ := HDN.out; injection e with e1 e2 e3; injection e' with e1' e2' e3'; subst e3; rw [e3']; exact hn (by rw [← e1', e1, h]))
            have hSL : (setsOf DF DF.length).length = i := by rw [setsOf_len _ _ (Nat.le_refl _)]; exact HND.out
            obtain ⟨SS, hSS⟩ : ∃ x, setsOf DF DF.length = x := ⟨_, rfl⟩
            rw [hSS] at hst hSL
            have HST := Lib.hid hst; have HSL := Lib.hid hSL; have HSE := Lib.hid hSS
            clear hst hSL hSS kf8 HX
            go_wp2_with fail
            refine (HST.out _ HB8.out).mono ?_
            rintro e W9 ⟨sv, rfl, hso, hb9⟩
            obtain ⟨us, hls⟩ := LpS.of hso hb9
            obtain ⟨tA, tc, rfl, ht1, ht2⟩ := hso.form'
            rw [HSL.out] at hls ht1 ⊢
            unfold maxLen at ht2
            have HLS := Lib.hid hls
            clear hls hso hb9 f0 f1 b1
            go_wp2_with fail
            go_loopg [16] i (fun gk vi wr => ∃ p : Nat, vi = .int .i64 p ∧ gk = i - p ∧ p ≤ i ∧ Hid (LpS W8 (.slice tA i tc) i us wr))
            case atStart => exact ⟨0, rfl, rfl, Nat.zero_le _, HLS⟩
            case round =>
              clear HLS
              obtain ⟨p, rfl, hgk, hpn, HS⟩ := hrel
              have HGK := Lib.hid hgk; clear hgk
              have p0 : (0 : Int) ≤ (p : Int) := Int.natCast_nonneg _
              by_cases hlt3 : p < i
              · have p1 : (p : Int) < (i : Int) := by omega
                obtain ⟨gs, cs0, curs, e, hgsB, hgsh⟩ := RowAny.head ⟨_, HS.out.row⟩ (show 0 < i by omega)
                injection e with e1 e2 e3
                subst e1
                clear e2 e3
                have hul : us.length = i := by have := HS.out.row.1; omega
                obtain ⟨u, hu⟩ : ∃ u, us[p]? = some u := ⟨_, List.getElem?_eq_getElem (by omega)⟩
                have hgc : ∀ W : World, LpS W8 (.slice (some ⟨gs, 0, none⟩) i tc) i us W → W.cell? ⟨gs, p, none⟩ = some u := fun W hW => by
                  rw [World.ownsRow.cellAt hW.row p (by omega), hu]
                obtain ⟨uA, m, uc, rfl, hmc, hmm, -⟩ := HS.out.els p u hu
                unfold maxLen at hmm
                have HGC := Lib.hid hgc; have HU := Lib.hid hu
                have hc := hgc _ HS.out
                clear hgc hu hgsB hgsh hul
                go_wp2_with fail
                clear hc
                go_loopg [17] m (fun gk vi wr => ∃ q : Nat, vi = .int .i64 q ∧ gk = m - q ∧ q ≤ m ∧ Hid (LpS W8 (.slice (some ⟨gs, 0, none⟩) i tc) i us wr))
                case atStart => exact ⟨0, rfl, rfl, Nat.zero_le _, HS⟩
                case round =>
                  clear HS
                  obtain ⟨q, rfl, hgk2, hqm, HS⟩ := hrel
                  have HGK2 := Lib.hid hgk2; clear hgk2
                  have q0 : (0 : Int) ≤ (q : Int) := Int.natCast_nonneg _
                  have hc := HGC.out _ HS.out
                  by_cases hlt4 : q < m
                  · have q1 : (q : Int) < (m : Int) := by omega
                    obtain ⟨A9, m9, c9, e9, -, -, hrow9⟩ := HS.out.els p _ HU.out
                    injection e9 with e91 e92 e93
                    subst e92
                    obtain ⟨gu, cu, curu, eu, hguB, hguh⟩ := hrow9.head (by omega)
                    injection eu with eu1 eu2 eu3
                    subst eu1
                    clear eu2 eu3 e91 e93
                    obtain ⟨⟨v0, hv0⟩, hf0⟩ := hrow9.cell (q * 2) (by omega)
                    have HSN := Lib.hid (show LpS W8 (.slice (some ⟨gs, 0, none⟩) i tc) i us (wr.setCell ⟨gu, q * 2, none⟩ (.int .i64 7)) from ⟨HS.out.below.setCell (p := ⟨gu, q * 2, none⟩) hguB _, own_farT HS.out.row hguh (by decide) _ _, fun i' u' hu' => by obtain ⟨A', m', c', e', h1, h2, h3⟩ := HS.out.els i' u' hu'; exact ⟨A', m', c', e', h1, h2, h3.any gu (q * 2) (.int .i64 7)⟩⟩)
                    clear HS hguB hguh hrow9
                    go_wp2_with fail
                    go_roundg (m - (q + 1))
                    case measure => have := HGK2.out; omega
                    case rel => exact ⟨q + 1, by go_num, rfl, hlt4, HSN⟩
                  · obtain rfl : q = m := by omega
                    clear HGK2 HGC HU
                    go_wp2_with fail
                    clear hc
                    go_roundg (i - (p + 1))
                    case measure => have := HGK.out; omega
                    case rel => exact ⟨p + 1, by go_num, rfl, hlt3, HS⟩
              · obtain rfl : p = i := by omega
                clear HGK
                have hb89 := HS.out.below
                have hB5r : Below W5.heap.size W5 wr := HB8.out.trans (hb89.mono HB8.out.size)
                have kf9 := Blk.below KF5.out hB5r KF5.out.lt; have kg9 := Blk.below KG5.out hB5r KG5.out.lt
                have hst := HST.out wr.drew hB5r.drew
                have hrs := fun W (hW : Below wr.heap.size wr.drew W) => rsets_any DF (by rw [HND.out]; omega) HDOK.out W (.slice eA p ec) sA j sc ((HDB5.out.grow hB5r.drew).grow (w := wr.drew) hW)
                rw [HSE.out] at hrs
                have hRt : RtA SS := by rw [← HSE.out]; exact setsOf_rt _ _
                have HST9 := Lib.hid hst; have HRS := Lib.hid hrs; have HKF9 := Lib.hid kf9; have HKG9 := Lib.hid kg9; have HBR := Lib.hid hB5r
                clear hst hrs kf9 kg9 hB5r hb89 HS HST hRt
                obtain ⟨W10, hW10⟩ : ∃ x, x = wr := ⟨_, rfl⟩
                subst hW10
                go_wp2_with fail
                refine region_x 5 (fun w' : World => w'.cell? ⟨F, 0, none⟩ = some (.slice dA p dc) ∧ w'.cell? ⟨F, 1, none⟩ = some (.slice rA j rc) ∧ w'.cell? ⟨G, 0, none⟩ = some (.slice eA p ec) ∧ w'.cell? ⟨G, 1, none⟩ = some (.slice sA j sc)) (by kernel_rfl) ?_
                have hS : W10.drew.cell? ⟨F, 0, none⟩ = some (.slice dA p dc) ∧ W10.drew.cell? ⟨F, 1, none⟩ = some (.slice rA j rc) ∧ W10.drew.cell? ⟨G, 0, none⟩ = some (.slice eA p ec) ∧ W10.drew.cell? ⟨G, 1, none⟩ = some (.slice sA j sc) := ⟨Blk.cell HKF9.out 0, Blk.cell HKF9.out 1, Blk.cell HKG9.out 0, Blk.cell HKG9.out 1⟩
                refine anyX_take (i := 0) (v := ?_) rfl (by kernel_rfl) (by kernel_rfl) (by kernel_rfl) (by kernel_rfl) (fun _ _ _ h => h) (Or.inl ⟨by rfl, ?_⟩) hS ?_
                rotate_left
                · rintro w' ⟨s0, s1, s2, s3⟩
                  go_simp
                  try with_reducible rfl
                try simp only [Act.put, zq1, zq2, zq3, zq4, zq5, zq6]
                refine anyX_take (i := 2) (v := ?_) rfl (by kernel_rfl) (by kernel_rfl) (by kernel_rfl) (by kernel_rfl) (fun _ _ _ h => h) (Or.inl ⟨by rfl, ?_⟩) hS ?_
                rotate_left
                · rintro w' ⟨s0, s1, s2, s3⟩
                  go_simp
                  try with_reducible rfl
                try simp only [Act.put, zq1, zq2, zq3, zq4, zq5, zq6]
                refine anyX_g (i := 1) (by kernel_rfl) (by decide) rfl (by rfl) ?_
                intro K hK
                try simp only [zq1, zq2, zq3]
                refine wp_enterE #[.agg #[.slice dA p dc, .slice rA j rc]] Tryz.func12 (by kernel_rfl) (by kernel_rfl) ?_ (HST9.out) ?_
                · go_simp
                rintro e W11 ⟨gv, rfl, hso2, hb11⟩
                refine ⟨_, rfl, ?_⟩
                have hb11' : Below W10.heap.size W10 W11 := (Below.refl _ W10).drew.trans hb11
                have hS11 : W11.cell? ⟨F, 0, none⟩ = some (.slice dA p dc) ∧ W11.cell? ⟨F, 1, none⟩ = some (.slice rA j rc) ∧ W11.cell? ⟨G, 0, none⟩ = some (.slice eA p ec) ∧ W11.cell? ⟨G, 1, none⟩ = some (.slice sA j sc) := ⟨bel_cell hb11' hS.1, bel_cell hb11' hS.2.1, bel_cell hb11' hS.2.2.1, bel_cell hb11' hS.2.2.2⟩
                refine hK _ _ hS11 ?_
                clear hK
                try simp only [Act.put, zq1, zq2, zq3, zq4, zq5, zq6]
                refine anyX_g (i := 3) (by kernel_rfl) (by decide) rfl (by rfl) ?_
                intro K hK
                try simp only [zq1, zq2, zq3]
                refine wp_enterE #[.agg #[.slice eA p ec, .slice sA j sc]] Tryz.func13 (by kernel_rfl) (by kernel_rfl) ?_ (HRS.out W11 hb11) ?_
                · go_simp
                rintro e W12 ⟨qv, rfl, hro2, hb12⟩
                refine ⟨_, rfl, ?_⟩
                have hS12 : W12.cell? ⟨F, 0, none⟩ = some (.slice dA p dc) ∧ W12.cell? ⟨F, 1, none⟩ = some (.slice rA j rc) ∧ W12.cell? ⟨G, 0, none⟩ = some (.slice eA p ec) ∧ W12.cell? ⟨G, 1, none⟩ = some (.slice sA j sc) := ⟨bel_cell hb12 hS11.1, bel_cell hb12 hS11.2.1, bel_cell hb12 hS11.2.2.1, bel_cell hb12 hS11.2.2.2⟩
                have hsr : ReadsL W12 gv p SS := by have := (hso2.reads).below hb12; rw [HSL.out] at this; exact this
                have hrr : ReadsL W12 qv p SS := by have := hro2.reads; rw [HSL.out] at this; exact this
                obtain ⟨gA, gc, rfl, hg1, hg2⟩ := hso2.form'
                obtain ⟨qA, qc, rfl, hq1, hq2⟩ := hro2.form
                rw [HSL.out] at hg1 hq1 ⊢ hsr hrr
                refine hK _ _ hS12 ?_
                clear hK
                try simp only [Act.put, zq1, zq2, zq3, zq4, zq5, zq6]
                have hb1012 : Below W10.heap.size W10 W12 := hb11'.trans (hb12.mono hb11'.size)
                have HSR := Lib.hid hsr; have HRR := Lib.hid hrr; have HB12 := Lib.hid (HBR.out.trans (hb1012.mono HBR.out.size))
                clear hsr hrr hb1012 hb11 hb11' hb12 hso2 hro2 hS hS11 HST9 HRS HKF9 HKG9 HBR
                unfold maxLen at hg2 hq2
                refine anyX_take (i := 4) (v := ?_) rfl (by kernel_rfl) (by kernel_rfl) (by kernel_rfl) (by kernel_rfl) (fun _ _ _ h => h) (Or.inl ⟨by rfl, ?_⟩) hS12 ?_
                rotate_left
                · rintro w' ⟨s0, s1, s2, s3⟩
                  go_simp
                  try with_reducible rfl
                try simp only [Act.put, zq1, zq2, zq3, zq4, zq5, zq6]
                clear hS12
                refine anyX_last (by kernel_rfl) (by kernel_rfl) rfl rfl ?_
                try simp only [zq1, zq2, zq3]
                go_simp
                try apply_assumption
                go_wp2_with fail
                go_loopg [20] p (fun gk vi wr => ∃ q : Nat, vi = .int .i64 q ∧ gk = p - q ∧ q ≤ p ∧ Hid (Below W12.heap.size W12 wr))
                case atStart => exact ⟨0, rfl, rfl, Nat.zero_le _, Lib.hid (Below.refl _ _)⟩
                case round =>
                  obtain ⟨q, rfl, hgk, hqn, HB⟩ := hrel
                  have HGK := Lib.hid hgk; clear hgk
                  have q0 : (0 : Int) ≤ (q : Int) := Int.natCast_nonneg _
                  by_cases hlt5 : q < p
                  · have q1 : (q : Int) < (p : Int) := by omega
                    have qg : decide ((p : Int) ≤ (q : Int)) = false := by simp; omega
                    have qn : decide (p ≤ q) = false := by simp; omega
                    obtain ⟨g, o, c, u, e, hcs, hru⟩ := HSR.out.get q hlt5
                    obtain ⟨g', o', c', u', e', hcr, hru'⟩ := HRR.out.get q hlt5
                    injection e with e1 e2 e3
                    injection e' with e1' e2' e3'
                    subst e1; subst e1'
                    clear e2 e3 e2' e3'
                    obtain ⟨L, hL⟩ : ∃ L, SS.getD q [] = L := ⟨_, rfl⟩
                    rw [hL] at hru hru'
                    have hco := fun W (hW : Below W12.heap.size W12 W) => same_any (hru.below hW) (hru'.below hW)
                    obtain ⟨ua, uc1, rfl, -⟩ := hru.form
                    obtain ⟨ua', uc', rfl, -⟩ := hru'.form
                    obtain ⟨m, hm⟩ : ∃ m, L.length = m := ⟨_, rfl⟩
                    rw [hm] at hco hcs hcr
                    have hcs' : wr.drew.cell? ⟨g, o + q, none⟩ = some (.slice ua m uc1) := bel_cell HB.out hcs
                    have hcr' : wr.drew.cell? ⟨g', o' + q, none⟩ = some (.slice ua' m uc') := bel_cell HB.out hcr
                    have HCO := Lib.hid (hco wr.drew HB.out.drew)
                    clear hco hru hru' hL hm hcs hcr
                    go_wp2_with fail
                    have hS : wr.drew.cell? ⟨g, o + q, none⟩ = some (.slice ua m uc1) ∧ wr.drew.cell? ⟨g', o' + q, none⟩ = some (.slice ua' m uc') := ⟨hcs', hcr'⟩
                    go_region_held3 (fun w' : World => w'.cell? ⟨g, o + q, none⟩ = some (.slice ua m uc1) ∧ w'.cell? ⟨g', o' + q, none⟩ = some (.slice ua' m uc'))
                      (with_reducible (first | exact hS | exact hS3))
                      (first
                        | (go_at_call 14; (with_reducible refine HCO.out.mono ?_)
                           rintro e w3 ⟨rfl, hb3⟩
                           have hb3' : Below wr.heap.size wr w3 := (Below.refl _ wr).drew.trans hb3
                           have hS3 : w3.cell? ⟨g, o + q, none⟩ = some (.slice ua m uc1) ∧ w3.cell? ⟨g', o' + q, none⟩ = some (.slice ua' m uc') := ⟨bel_cell hb3' hcs', bel_cell hb3' hcr'⟩
                           have HBN := Lib.hid (HB.out.trans (hb3'.mono HB.out.size))
                           clear hb3 hb3'))
                    go_wp2_with fail
                    go_roundg (p - (q + 1))
                    case measure => have := HGK.out; omega
                    case rel => exact ⟨q + 1, by go_num, rfl, hlt5, HBN⟩
                  · obtain rfl : q = p := by omega
                    clear HGK HSR HRR
                    have hB5 : Below W5.heap.size W5 wr := HB12.out.trans (HB.out.mono HB12.out.size)
                    obtain ⟨W13, hW13⟩ : ∃ x, x = wr := ⟨_, rfl⟩
                    subst hW13
                    have hpa := parse_any W13 tx (HE.out.below (HB5.out.trans (hB5.mono HB5.out.size)))
                    have HPA := Lib.hid hpa; have HBZ := Lib.hid hB5
                    clear hpa hB5 HB HB12
                    go_wp2_with fail
                    refine HPA.out.mono ?_
                    rintro e W14 ⟨zd, zr, P, rfl, hP, hzd, hzr, hb14⟩
                    rw [HTD.out, HPRS.out] at hP
                    subst hP
                    dsimp only at hzd hzr ⊢
                    have hda := hzd.at_; have hra := hzr.at_
                    obtain ⟨zA, zc, rfl, -, -, -⟩ := hzd.form
                    obtain ⟨vA, vc, rfl, -, -, -⟩ := hzr.form
                    rw [HLD.out] at hda ⊢
                    rw [HLR.out] at hra ⊢
                    have hB14 : Below W5.heap.size W5 W14 := HBZ.out.trans (hb14.mono HBZ.out.size)
                    obtain ⟨W15, hW15⟩ : ∃ x, W14.alloc (.cells #[.slice zA q zc, .slice vA j vc] 28) = x := ⟨_, rfl⟩
                    have hb15 : Below W14.heap.size W14 W15 := by rw [← hW15]; exact (Below.refl _ _).alloc (Nat.le_refl _) _
                    have hB15 : Below W5.heap.size W5 W15 := hB14.trans (hb15.mono hB14.size)
                    have ky : Blk W15 W14.heap.size 28 #[.slice zA q zc, .slice vA j vc] := by rw [← hW15]; exact Blk.new _ _ _
                    have kf := Blk.below KF5.out hB15 KF5.out.lt; have kg := Blk.below KG5.out hB15 KG5.out.lt
                    have hsf := same_file DF RL (by rw [HND.out]; omega) (by rw [HNR.out]; omega) W15 _ _ _ _ _ _ (HDA5.out.grow hB15) (HRA5.out.grow hB15) (HDB5.out.grow hB15) (HRB5.out.grow hB15)
                    have hsg := fun W (hW : Below W15.heap.size W15 W) => same_file DF RL (by rw [HND.out]; omega) (by rw [HNR.out]; omega) W _ _ _ _ _ _ ((hda.grow hb15).grow hW) ((hra.grow hb15).grow hW) ((HDB5.out.grow hB15).grow hW) ((HRB5.out.grow hB15).grow hW)
                    have HSF := Lib.hid hsf; have HSG := Lib.hid hsg; have HKY := Lib.hid ky; have HKG := Lib.hid kg; have HB15 := Lib.hid (HB5.out.trans (hB15.mono HB5.out.size)); have HKF := Lib.hid kf; have HW15 := Lib.hid hW15
                    have f0 := Blk.cell kf 0; have f1 := Blk.cell kf 1; have g0 := Blk.cell kg 0; have g1 := Blk.cell kg 1
                    clear hsf hsg ky kg kf hB15 hb15 hB14 hda hra hzd hzr hb14 HPA HBZ
                    rw [← hW15] at f0 f1 g0 g1
                    clear hW15
                    go_wp2_with fail
                    rw [HW15.out]
                    refine HSF.out.mono ?_
                    rintro e W16 ⟨rfl, hb16⟩
                    have y0 := bel_cell hb16 (Blk.cell HKY.out 0); have y1 := bel_cell hb16 (Blk.cell HKY.out 1)
                    have p0 := bel_cell hb16 (Blk.cell HKG.out 0); have p1 := bel_cell hb16 (Blk.cell HKG.out 1)
                    have HS2 := Lib.hid (HSG.out W16 hb16)
                    have HB16 := Lib.hid (HB15.out.trans (hb16.mono HB15.out.size))
                    clear f0 f1 g0 g1 hb16
                    go_wp2_with fail
                    refine HS2.out.mono ?_
                    rintro e W17 ⟨rfl, hb17⟩
                    have HB17 := Lib.hid (HB16.out.trans (hb17.mono HB16.out.size))
                    clear y0 y1 p0 p1 hb17 HS2
                    go_wp2_with fail
                    go_ret
                    exact ⟨rfl, HB17.out⟩
  · have hf : fewB l = false := by unfold fewB; simpa using hfew
    rw [hf] at hfw
    have HFW := Lib.hid hfw
    clear hfw hf hfew
    go_wp2_with fail
    refine HFW.out.mono ?_
    rintro e W ⟨rfl, rfl⟩
    go_wp2_with fail
    go_ret
    exact ⟨rfl, HB1.out⟩
end Go.Proofs.YtalgnnidhnhciaaGreatDoor
