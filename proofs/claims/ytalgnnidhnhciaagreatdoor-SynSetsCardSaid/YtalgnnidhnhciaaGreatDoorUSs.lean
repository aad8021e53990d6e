/- What the law SynSets needs of sets, one more behind them; plain mathematics, and rows that grow. The law SynSets, walked. -/
import Derived.Test.YtalgnnidhnhciaaGreatDoorULh
import Derived.Test.YtalgnnidhnhciaaGreatDoorUSynKa
import Derived.Deep.RegionHeld3
set_option linter.unusedVariables false
set_option linter.unusedSimpArgs false
set_option linter.unusedVariables false
set_option linter.unusedSimpArgs false
namespace Go.Proofs.YtalgnnidhnhciaaGreatDoor
open Go Go.RowKit Go.Proofs

theorem meanC_take {D D' : List Bs} {ss : List Rg} (h : D.take ss.length = D'.take ss.length) : ∀ c : Cls, meanC D ss c = meanC D' ss c
  | .range _ _ => rfl
  | .name s => by unfold meanC meanN; rw [h]
  | .any_ => rfl
  | .not_ a => by unfold meanC; rw [meanC_take h a]
  | .or_ a b => by unfold meanC; rw [meanC_take h a, meanC_take h b]
  | .and_ a b => by unfold meanC; rw [meanC_take h a, meanC_take h b]
  | .less a b => by unfold meanC; rw [meanC_take h a, meanC_take h b]
theorem setsOf_prefix (defs : List DefP) (d : DefP) : ∀ i, i ≤ defs.length → setsOf (defs ++ [d]) i = setsOf defs i := by
  intro i
  induction i with
  | zero => intro _; rfl
  | succ i ih =>
    intro hi
    have h1 : i < (defs ++ [d]).length := by simp; omega
    have h2 : i < defs.length := hi
    rw [setsOf_next _ i h1, setsOf_next _ i h2, ih (by omega)]
    have e : (defs ++ [d])[i] = defs[i] := List.getElem_append_left h2
    rw [e]
    congr 2
    refine meanC_take ?_ _
    rw [setsOf_len defs i (by omega), List.map_append, List.take_append_of_le_length (by rw [List.length_map]; omega)]
theorem ixN_names (ds : List Int) (J : Nat) (hJ : J < (defsOf ds).length) : ixN ((defsOf ds).map DefP.name) (((defsOf ds).map DefP.name).getD J []) = J := by
  have hl : ((defsOf ds).map DefP.name).length = (defsOf ds).length := by simp
  rw [← hl] at hJ
  rcases defsOf_names ds with h | h | h <;> rw [h] at hJ ⊢
  · have : J = 0 ∨ J = 1 ∨ J = 2 ∨ J = 3 := by simp [dNames] at hJ; omega
    rcases this with rfl | rfl | rfl | rfl <;> rfl
  · have : J = 0 ∨ J = 1 ∨ J = 2 ∨ J = 3 ∨ J = 4 := by simp [dNames] at hJ; omega
    rcases this with rfl | rfl | rfl | rfl | rfl <;> rfl
  · have : J = 0 ∨ J = 1 ∨ J = 2 ∨ J = 3 ∨ J = 4 ∨ J = 5 := by simp [dNames] at hJ; omega
    rcases this with rfl | rfl | rfl | rfl | rfl | rfl <;> rfl
def defX (s : Bs) : DefP := ⟨[120], .not_ (.name s)⟩
/-- What the set that is put behind stands for. -/
theorem setsOf_more (ds : List Int) (J : Nat) (hJ : J < (defsOf ds).length) :
    setsOf (defsOf ds ++ [defX (((defsOf ds).map DefP.name).getD J [])]) ((defsOf ds).length + 1) = setsOf (defsOf ds) (defsOf ds).length ++ [notL ((setsOf (defsOf ds) (defsOf ds).length).getD J [])] := by
  have h1 : (defsOf ds).length < (defsOf ds ++ [defX (((defsOf ds).map DefP.name).getD J [])]).length := by simp
  rw [setsOf_next _ _ h1, setsOf_prefix _ _ _ (Nat.le_refl _)]
  have e : (defsOf ds ++ [defX (((defsOf ds).map DefP.name).getD J [])])[(defsOf ds).length] = defX (((defsOf ds).map DefP.name).getD J []) := by simp
  rw [e]
  congr 2
  have hl := setsOf_len (defsOf ds) (defsOf ds).length (Nat.le_refl _)
  show notL (meanN _ _ _) = _
  unfold meanN
  rw [hl, List.map_append, List.take_append_of_le_length (by rw [List.length_map]; exact Nat.le_refl _), List.take_of_length_le (by rw [List.length_map]; exact Nat.le_refl _), ixN_names ds J hJ, if_pos (by omega)]
  rfl
/-- A row of sets of the call's own, with a block F apart from all. -/
def DefsOwnF (w : World) (B F : Nat) (v : Value) (l : List (Bs × Tree)) : Prop :=
  ∃ cs : List DCell, w.ownsRow B 37 6 v l.length (cs.flatMap DCell.enc) ∧ RowRel (DefR w (fun g => B ≤ g ∧ some g ≠ v.ownBlock ∧ g ≠ F)) cs l
theorem DefsOwnF.of {w : World} {B F : Nat} {v : Value} {l : List (Bs × Tree)} (h : DefsOwn w B v l) (hF : w.heap.size ≤ F) : DefsOwnF w B F v l := by
  obtain ⟨cs, h1, h2⟩ := h
  exact ⟨cs, h1, h2.mono fun x d q => q.keep (fun g hg hlt => ⟨hg.1, hg.2, by omega⟩) (fun _ _ _ _ h => h)⟩
theorem DefsOwnF.bel {w w' : World} {B F : Nat} {v : Value} {l : List (Bs × Tree)} (h : DefsOwnF w B F v l) (hb : Below w.heap.size w w') : DefsOwnF w' B F v l := by
  obtain ⟨cs, h1, h2⟩ := h
  exact ⟨cs, World.ownsRow.kept h1 (only_of_below hb none) (none_or v), h2.mono fun x d q => q.keep (fun g hg _ => hg) (fun g _ i y hy => by rw [hb.cell (p := ⟨g, i, none⟩) (World.block_lt_of_cell? w _ hy)]; exact hy)⟩
/-- One more, then a cell of F turned: the row reads. -/
theorem DefsOwnF.more {w2 w3 w5 : World} {B F g cap : Nat} {v : Value} {l : List (Bs × Tree)} {cs : List DCell} {x : DCell} {d : Bs × Tree} (h2 : RowRel (DefR w2 (fun g => B ≤ g ∧ some g ≠ v.ownBlock ∧ g ≠ F)) cs l) (hv : ∀ k, v.ownBlock = some k → k < w2.heap.size ∧ k ≠ F) (hF : F < w2.heap.size)
    (hb : Below w2.heap.size w2 w3) (o : Obj) (hgr : (w3.alloc o).grownBy w5 v.ownBlock) (hat : v.ownBlock = some g ∨ g = (w3.alloc o).heap.size)
    (hown : w5.ownsRow B 37 6 (.slice (some ⟨g, 0, none⟩) (l.length + 1) cap) (l.length + 1) (cs.flatMap DCell.enc ++ x.enc)) (hx : x.nm0.data.toList = d.1 ∧ TreeV false w3 (fun g => w2.heap.size ≤ g) x.val d.2) (j : Nat) (y : Value) :
    DefsAt (w5.setCell ⟨F, j, none⟩ y) (fun g => g < (w5.setCell ⟨F, j, none⟩ y).heap.size) (.slice (some ⟨g, 0, none⟩) (l.length + 1) cap) (l ++ [d]) := by
  have hz := hb.size
  have hza : (w3.alloc o).heap.size = w3.heap.size + 1 := by simp
  have hal : ∀ k i y, w3.cell? ⟨k, i, none⟩ = some y → (w3.alloc o).cell? ⟨k, i, none⟩ = some y := fun k i y hy => by rw [World.cell?_alloc_past _ _ _ (World.block_lt_of_cell? w3 _ hy)]; exact hy
  have hgF : g ≠ F := by
    rcases hat with q | q
    · exact (hv g q).2
    · omega
  obtain ⟨A', c', e1, e2, e3, -⟩ := own_form hown
  injection e1 with e4 e5 e6
  have hcell : ∀ i, i < (l.length + 1) * 6 → (w5.setCell ⟨F, j, none⟩ y).cell? ⟨g, i, none⟩ = (cs.flatMap DCell.enc ++ x.enc)[i]? := fun i hi => by
    have hc := World.ownsRow.cellAt hown i hi
    have hlen := hown.1
    rw [List.getElem?_eq_getElem (by omega)] at hc ⊢
    exact cell_far hc hgF
  have hen : (cs ++ [x]).flatMap DCell.enc = cs.flatMap DCell.enc ++ x.enc := by rw [List.flatMap_append]; simp
  refine ⟨some ⟨g, 0, none⟩, cap, cs ++ [x], by rw [List.length_append]; rfl, by rw [List.length_append]; simpa [e6] using e2, by rw [e6]; exact e3, ⟨(fun e => by cases e), (fun _ _ _ e => by cases e; rfl)⟩, ?_, fun g' o' e i hi => ?_⟩
  · refine RowRel.push (DefR.keep (w := w3) (S := fun g => w2.heap.size ≤ g) hx (fun k hk hlt => by have := hgr.size; simp [World.setCell] at *; omega) (fun k hk i y' hy' => cell_far (hgr.cell (hal k i y' hy') (fun e => by have := (hv k e.symm).1; omega)) (by show k ≠ F; omega))) (h2.mono fun a c q => ?_)
    refine q.keep (fun k hk hlt => by have := hgr.size; simp [World.setCell] at *; omega) (fun k hk i y' hy' => cell_far (hgr.cell (hal k i y' (by rw [hb.cell (p := ⟨k, i, none⟩) (World.block_lt_of_cell? w2 _ hy')]; exact hy')) hk.2.1) hk.2.2)
  · have hii : i < l.length + 1 := by rw [List.length_append, h2.len] at hi; simpa using hi
    injection e with e
    have e7 : g = g' := by injection e
    have e8 : (0 : Nat) = o' := by injection e
    subst e7; subst e8
    refine ⟨?_, fun k v' hk => ?_⟩
    · have h0 := hcell (i * 6) (by omega)
      rw [← hen] at h0
      have := flatMap_at DCell.enc 6 DCell.len (cs ++ [x]) i 0 hi (by omega)
      rw [Nat.add_zero] at this
      rw [this] at h0
      exact World.block_lt_of_cell? _ _ (h0.trans rfl)
    · have hk6 : k < 6 := by have := (List.getElem?_eq_some_iff.1 hk).1; simpa [DCell.enc] using this
      rw [Nat.zero_add, hcell (i * 6 + k) (by omega), ← hen, flatMap_at DCell.enc 6 DCell.len (cs ++ [x]) i k hi hk6]
      exact hk
end Go.Proofs.YtalgnnidhnhciaaGreatDoor

set_option linter.unusedVariables false
set_option linter.unusedSimpArgs false
namespace Go.Proofs.YtalgnnidhnhciaaGreatDoor
open Go Go.RowKit Go.Proofs

theorem below_lt {B : Nat} {w w' : World} (h : Below B w w') {g i : Nat} {x : Value} (hc : w.cell? ⟨g, i, none⟩ = some x) (hg : g < B) : w'.cell? ⟨g, i, none⟩ = some x := by rw [h.cell (p := ⟨g, i, none⟩) hg]; exact hc
theorem bel_cell {w w' : World} (h : Below w.heap.size w w') {g i : Nat} {x : Value} (hc : w.cell? ⟨g, i, none⟩ = some x) : w'.cell? ⟨g, i, none⟩ = some x := below_lt h hc (World.block_lt_of_cell? w _ hc)
theorem SetsOwn.form' {w : World} {B : Nat} {v : Value} {ss : List Rg} (h : SetsOwn w B v ss) : ∃ A c, v = .slice A ss.length c ∧ ss.length ≤ c ∧ c ≤ maxLen := by
  obtain ⟨us, h1, _⟩ := h
  obtain ⟨A, c, e, h3, h4, _⟩ := own_form h1
  exact ⟨A, c, e, h3, h4⟩
theorem ReadsL.get {w : World} {v : Value} {k : Nat} {ss : List Rg} (h : ReadsL w v k ss) (i : Nat) (hi : i < k) : ∃ g o c u, v = .slice (some ⟨g, o, none⟩) k c ∧ w.cell? ⟨g, o + i, none⟩ = some u ∧ ReadsP w u (ss.getD i []).length (ss.getD i []) := by
  obtain ⟨_, a, c, e, _, _, _, h4⟩ := h
  obtain ⟨b, off, u, rfl, h5, h6⟩ := h4 i hi
  exact ⟨b, off, c, u, e, h5, h6⟩
theorem SetsRd.reads {w : World} {B Lb : Nat} {v : Value} {ss : List Rg} (h : SetsRd w B Lb v ss) : ReadsL w v ss.length ss := by
  obtain ⟨us, h1, h2⟩ := h
  obtain ⟨A, c, e1, e2, e3, e4⟩ := own_form h1
  refine ⟨rfl, A, c, e1, e2, e3, e4, fun i hi => ?_⟩
  obtain ⟨g, c', u, e, hc, hr⟩ := SetsRd.get ⟨us, h1, h2⟩ i hi
  rw [e1] at e
  injection e with e5 e6 e7
  refine ⟨g, 0, u, e5, by rw [Nat.zero_add]; exact hc, ?_⟩
  have : ss.getD i [] = ss[i] := by simp [List.getD, hi]
  rw [this]; exact hr.1
set_option maxRecDepth 100000 in
set_option maxHeartbeats 16000000 in
theorem synSets_walk (a0 : Option Addr) (len0 cap0 : Nat) (z0 : List Int) (a1 : Int) (w : World) (w0 : IsRow .i64 w a0 len0 cap0 z0) (w1 : (Lit.int .i64 a1).wf = true) (hE : ErrV w) (hT : TabD w) :
    Calls Tryz.prog 3 #[.slice a0 len0 cap0, .int .i64 a1] w fun e w' => e = .returned (.bool true) ∧ Below w.heap.size w w' := by
  obtain ⟨ns, hns⟩ : ∃ ns, z0.take len0 = ns := ⟨_, rfl⟩
  have hI := IntsR.of_row w0
  rw [hns] at hI
  have HKN := Lib.hid (known5_ok w hE hT); have HI := Lib.hid hI
  clear hE hT w0 w1 hns hI
  go_enter Tryz.func3, Tryz.ntmps3
  go_wp2_with fail
  refine HKN.out.mono ?_
  rintro e W1 ⟨rfl, hb1⟩
  have HB1 := Lib.hid hb1; have HDF := Lib.hid (defs_made ns W1 _ (HI.out.below hb1))
  clear hb1 HKN HI
  go_wp2_with fail
  refine HDF.out.mono ?_
  rintro e W2 ⟨u, rfl, hown, hb2⟩
  obtain ⟨UA, uc, rfl, hu1, hu2, hunil⟩ := hown.form
  obtain ⟨n, hn⟩ : ∃ n, (defsOf ns).length = n := ⟨_, rfl⟩
  have hlm : ((defsOf ns).map DefP.tree).length = n := by rw [List.length_map, hn]
  have hn46 := defsOf_len ns
  rw [hn] at hn46
  obtain ⟨hn4, hn6⟩ := hn46
  have hB2 : Below w.heap.size w W2 := HB1.out.trans (hb2.mono HB1.out.size)
  have hat := hown.at_
  have hF := DefsOwnF.of (F := W2.heap.size) hown (Nat.le_refl _)
  have hug : ∀ k, (Value.slice UA ((defsOf ns).map DefP.tree).length uc).ownBlock = some k → k < W2.heap.size := fun k e => by obtain ⟨cs, h1, _⟩ := hown; exact (own_below h1 k e).2
  rw [hlm] at hu1 hat hF hug ⊢
  unfold maxLen at hu2
  have HUG := Lib.hid hug
  have HW2 := Lib.hid hB2.size
  have HOWN := Lib.hid hF; have HAT := Lib.hid hat; have HBW := Lib.hid HB1.out.size; have HB2 := Lib.hid hB2; have HN := Lib.hid hn; have HLM := Lib.hid hlm; have HUN := Lib.hid hunil
  clear hown hat hF hb2 hB2 hn hlm hunil HDF HB1 hug
  go_wp2_with fail
  obtain ⟨W3, hW3⟩ : ∃ W3, W2.alloc (.cells #[.slice UA n uc, .slice none 0 0] 28) = W3 := ⟨_, rfl⟩
  have hfb : Blk W3 W2.heap.size 28 #[.slice UA n uc, .slice none 0 0] := by rw [← hW3]; exact Blk.new _ _ _
  have hb23 : Below W2.heap.size W2 W3 := by rw [← hW3]; exact (Below.refl _ _).alloc (Nat.le_refl _) _
  have hz3 : W3.heap.size = W2.heap.size + 1 := by rw [← hW3]; simp
  rw [hW3]
  obtain ⟨F, hFE⟩ : ∃ F, W2.heap.size = F := ⟨_, rfl⟩
  have hat3 : DefsAt W3 (fun g => g < W3.heap.size) (.slice UA n uc) ((defsOf ns).map DefP.tree) := HAT.out.keep (fun g _ h => Nat.lt_of_lt_of_le h hb23.size) (fun g _ i y hy => bel_cell hb23 hy)
  have hF3 := HOWN.out.bel hb23
  have hB3 : Below w.heap.size w W3 := HB2.out.trans (hb23.mono HB2.out.size)
  rw [hFE] at hfb hF3 hz3 ⊢
  have hugF : ∀ k, (Value.slice UA n uc).ownBlock = some k → k < F := fun k e => by rw [← hFE]; exact HUG.out k e
  have hwF : w.heap.size ≤ F := by rw [← hFE]; exact HW2.out
  have HUGF := Lib.hid hugF
  have hat3d : DefsAt W3.drew (fun g => g < W3.drew.heap.size) (.slice UA n uc) ((defsOf ns).map DefP.tree) := hat3.keep (w' := W3.drew) (fun _ _ h => h) (fun _ _ _ _ h => h)
  have hss := sets_ok (defsOf ns) (by have := HN.out; omega) W3.drew (.slice UA n uc) none 0 0 hat3d (fun A m c e h => by injection e with e1 e2 e3; subst e3; exact HUN.out (e1.trans h))
  have hrs := fun W (hW : Below W3.heap.size W3.drew W) => rsets_any (defsOf ns) (by have := HN.out; omega) (defsOf_ok ns) W (.slice UA n uc) none 0 0 (hat3d.keep (w' := W) (fun g _ h => Nat.lt_of_lt_of_le h hW.size) (fun g _ i y hy => bel_cell (w := W3.drew) hW hy))
  obtain ⟨SS, hSS⟩ : ∃ SS, setsOf (defsOf ns) (defsOf ns).length = SS := ⟨_, rfl⟩
  have hSL : SS.length = n := by rw [← hSS, setsOf_len _ _ (Nat.le_refl _)]; exact HN.out
  rw [hSS] at hss hrs
  have hRt : RtA SS := by rw [← hSS]; exact setsOf_rt _ _
  have HSS := Lib.hid hss; have HRS := Lib.hid hrs; have HFB := Lib.hid hfb; have HF3 := Lib.hid hF3; have HB3 := Lib.hid hB3; have HSE := Lib.hid hSS; have HSL := Lib.hid hSL; have HZ3 := Lib.hid hz3; have HRT := Lib.hid hRt
  clear hss hrs hfb hF3 hB3 hSS hSL hz3 hat3 hat3d hb23 hW3 hFE HAT HOWN HB2 hRt hugF HUG HW2
  refine region_x 5 (fun w' : World => w'.cell? ⟨F, 0, none⟩ = some (.slice UA n uc) ∧ w'.cell? ⟨F, 1, none⟩ = some (.slice none 0 0)) (by kernel_rfl) ?_
  have hS : W3.drew.cell? ⟨F, 0, none⟩ = some (.slice UA n uc) ∧ W3.drew.cell? ⟨F, 1, none⟩ = some (.slice none 0 0) := ⟨Blk.cell HFB.out 0, Blk.cell HFB.out 1⟩
  refine anyX_take (i := 0) (v := ?_) rfl (by kernel_rfl) (by kernel_rfl) (by kernel_rfl) (by kernel_rfl) (fun _ _ _ h => h) (Or.inl ⟨by rfl, ?_⟩) hS ?_
  rotate_left
  · rintro w' ⟨s0, s1⟩
    go_simp
    try with_reducible rfl
  try simp only [Act.put, List.getElem_toArray, List.getElem_cons_succ, List.getElem_cons_zero, List.setIfInBounds_toArray, List.set_cons_zero, List.set_cons_succ]
  refine anyX_take (i := 2) (v := ?_) rfl (by kernel_rfl) (by kernel_rfl) (by kernel_rfl) (by kernel_rfl) (fun _ _ _ h => h) (Or.inl ⟨by rfl, ?_⟩) hS ?_
  rotate_left
  · rintro w' ⟨s0, s1⟩
    go_simp
    try with_reducible rfl
  try simp only [Act.put, List.getElem_toArray, List.getElem_cons_succ, List.getElem_cons_zero, List.setIfInBounds_toArray, List.set_cons_zero, List.set_cons_succ]
  refine anyX_g (i := 1) (by kernel_rfl) (by decide) rfl (by rfl) ?_
  intro K hK
  try simp only [List.getElem_toArray, List.getElem_cons_succ, List.getElem_cons_zero]
  refine wp_enterE #[.agg #[.slice UA n uc, .slice none 0 0]] Tryz.func12 (by kernel_rfl) (by kernel_rfl) ?_ (HSS.out) ?_
  · go_simp
  rintro e W4 ⟨sv, rfl, hso, hb4⟩
  refine ⟨_, rfl, ?_⟩
  have hb4' : Below W3.heap.size W3 W4 := (Below.refl _ W3).drew.trans hb4
  have hS4 : W4.cell? ⟨F, 0, none⟩ = some (.slice UA n uc) ∧ W4.cell? ⟨F, 1, none⟩ = some (.slice none 0 0) := ⟨bel_cell hb4' hS.1, bel_cell hb4' hS.2⟩
  refine hK _ _ hS4 ?_
  clear hK
  try simp only [Act.put, List.getElem_toArray, List.getElem_cons_succ, List.getElem_cons_zero, List.setIfInBounds_toArray, List.set_cons_zero, List.set_cons_succ]
  refine anyX_g (i := 3) (by kernel_rfl) (by decide) rfl (by rfl) ?_
  intro K hK
  try simp only [List.getElem_toArray, List.getElem_cons_succ, List.getElem_cons_zero]
  refine wp_enterE #[.agg #[.slice UA n uc, .slice none 0 0]] Tryz.func13 (by kernel_rfl) (by kernel_rfl) ?_ (HRS.out W4 hb4) ?_
  · go_simp
  rintro e W5 ⟨rv, rfl, hro, hb5⟩
  refine ⟨_, rfl, ?_⟩
  have hS5 : W5.cell? ⟨F, 0, none⟩ = some (.slice UA n uc) ∧ W5.cell? ⟨F, 1, none⟩ = some (.slice none 0 0) := ⟨bel_cell hb5 hS4.1, bel_cell hb5 hS4.2⟩
  have hsr : ReadsL W5 sv n SS := by have := (hso.reads).below hb5; rw [HSL.out] at this; exact this
  have hrr : ReadsL W5 rv n SS := by have := hro.reads; rw [HSL.out] at this; exact this
  obtain ⟨sA, sc, rfl, hs1, hs2⟩ := hso.form'
  obtain ⟨rA, rc, rfl, hr1, hr2⟩ := hro.form
  rw [HSL.out] at hs1 hr1 ⊢ hsr hrr hro
  have HRO := Lib.hid hro
  have hF4 : F < W4.heap.size := by have := hb4'.size; rw [HZ3.out] at this; omega
  refine hK _ _ hS5 ?_
  clear hK
  try simp only [Act.put, List.getElem_toArray, List.getElem_cons_succ, List.getElem_cons_zero, List.setIfInBounds_toArray, List.set_cons_zero, List.set_cons_succ]
  have hb35 : Below W3.heap.size W3 W5 := hb4'.trans (hb5.mono hb4'.size)
  have HSR := Lib.hid hsr; have HRR := Lib.hid hrr; have HB5 := Lib.hid (HB3.out.trans (hb35.mono HB3.out.size)); have HFB5 := Lib.hid (Blk.below HFB.out hb35 HFB.out.lt); have HF5 := Lib.hid (HF3.out.bel hb35)
  clear hsr hrr hb35 hb4 hb4' hb5 hso hro hS hS4 HSS HRS HFB HF3 HB3
  unfold maxLen at hs2 hr2
  refine anyX_take (i := 4) (v := ?_) rfl (by kernel_rfl) (by kernel_rfl) (by kernel_rfl) (by kernel_rfl) (fun _ _ _ h => h) (Or.inl ⟨by rfl, ?_⟩) hS5 ?_
  rotate_left
  · rintro w' ⟨s0, s1⟩
    go_simp
    try with_reducible rfl
  try simp only [Act.put, List.getElem_toArray, List.getElem_cons_succ, List.getElem_cons_zero, List.setIfInBounds_toArray, List.set_cons_zero, List.set_cons_succ]
  clear hS5
  refine anyX_last (by kernel_rfl) (by kernel_rfl) rfl rfl ?_
  try simp only [List.getElem_toArray, List.getElem_cons_succ, List.getElem_cons_zero]
  go_simp
  try apply_assumption
  go_wp2_with fail
  go_loopg [8] n (fun gk vi wr => ∃ i : Nat, vi = .int .i64 i ∧ gk = n - i ∧ i ≤ n ∧ Hid (Below W5.heap.size W5 wr))
  case atStart => exact ⟨0, rfl, rfl, Nat.zero_le _, Lib.hid (Below.refl _ _)⟩
  case round =>
    obtain ⟨i, rfl, hgk, hin, HB⟩ := hrel
    have HGK := Lib.hid hgk; clear hgk
    have i0 : (0 : Int) ≤ (i : Int) := Int.natCast_nonneg _
    by_cases hlt : i < n
    · have i1 : (i : Int) < (n : Int) := by omega
      obtain ⟨g, o, c, u, e, hcs, hru⟩ := HSR.out.get i hlt
      obtain ⟨g', o', c', u', e', hcr, hru'⟩ := HRR.out.get i hlt
      injection e with e1 e2 e3
      injection e' with e1' e2' e3'
      subst e1; subst e1'
      clear e2 e3 e2' e3'
      obtain ⟨L, hL⟩ : ∃ L, SS.getD i [] = L := ⟨_, rfl⟩
      rw [hL] at hru hru'
      have hco := fun W (hW : Below W5.heap.size W5 W) => same_any (hru.below hW) (hru'.below hW)
      obtain ⟨ua, uc1, rfl, -⟩ := hru.form
      obtain ⟨ua', uc', rfl, -⟩ := hru'.form
      obtain ⟨m, hm⟩ : ∃ m, L.length = m := ⟨_, rfl⟩
      rw [hm] at hco hcs hcr
      have hcs' : wr.drew.cell? ⟨g, o + i, none⟩ = some (.slice ua m uc1) := bel_cell HB.out hcs
      have hcr' : wr.drew.cell? ⟨g', o' + i, none⟩ = some (.slice ua' m uc') := bel_cell HB.out hcr
      have HCO := Lib.hid (hco wr.drew HB.out.drew)
      clear hco hru hru' hL hm hcs hcr
      go_wp2_with fail
      have hS : wr.drew.cell? ⟨g, o + i, none⟩ = some (.slice ua m uc1) ∧ wr.drew.cell? ⟨g', o' + i, none⟩ = some (.slice ua' m uc') := ⟨hcs', hcr'⟩
      go_region_held3 (fun w' : World => w'.cell? ⟨g, o + i, none⟩ = some (.slice ua m uc1) ∧ w'.cell? ⟨g', o' + i, none⟩ = some (.slice ua' m uc'))
        (with_reducible (first | exact hS | exact hS3))
        (first
          | (go_at_call 14; (with_reducible refine HCO.out.mono ?_)
             rintro e w3 ⟨rfl, hb3⟩
             have hb3' : Below wr.heap.size wr w3 := (Below.refl _ wr).drew.trans hb3
             have hS3 : w3.cell? ⟨g, o + i, none⟩ = some (.slice ua m uc1) ∧ w3.cell? ⟨g', o' + i, none⟩ = some (.slice ua' m uc') := ⟨bel_cell hb3' hcs', bel_cell hb3' hcr'⟩
             have HBN := Lib.hid (HB.out.trans (hb3'.mono HB.out.size))
             clear hb3 hb3'))
      go_wp2_with fail
      go_roundg (n - (i + 1))
      case measure => have := HGK.out; omega
      case rel => exact ⟨i + 1, by go_num, rfl, hlt, HBN⟩
    · obtain rfl : i = n := by omega
      clear HGK
      obtain ⟨J, hJ⟩ : ∃ J, wthN a1 (i : Int) = J := ⟨_, rfl⟩
      have hJn : J < i := by rw [← hJ]; exact wthN_lt a1 i (by omega)
      have hwj := fun w => wth_any a1 (i : Int) (by omega) (by omega) w
      rw [hJ] at hwj
      -- the names' cells, the row
      have hF6 := HF5.out.bel HB.out
      obtain ⟨cs, hrow, hrr⟩ := hF6
      have hFlt : F < W5.heap.size := HFB5.out.lt
      have hfb6 := Blk.below HFB5.out HB.out hFlt
      have hic : J < cs.length := hrr.len_eq (by rw [HLM.out]; exact hJn)
      have hdr := hrr.at_ J hic (by rw [HLM.out]; exact hJn)
      have hnm : cs[J].nm0.data.toList = ((defsOf ns).map DefP.name).getD J [] := by
        rw [hdr.1]
        have h2 : J < (defsOf ns).length := by rw [HN.out]; exact hJn
        simp [List.getD, h2, DefP.tree]
      rw [HLM.out] at hrow
      have hrow0 := hrow
      rcases hrow.2 with ⟨_, h0⟩ | ⟨g, cap, cur, eg, hgB, hgh, -⟩
      · omega
      injection eg with eg1 eg2 eg3
      subst eg1; subst eg3
      have hnc : wr.cell? ⟨g, 0 + J * 6, none⟩ = some (.string cs[J].nm0) := by
        have h1 := World.ownsRow.cellAt hrow0 (J * 6) (by omega)
        have := flatMap_at DCell.enc 6 DCell.len cs J 0 hic (by omega)
        rw [Nat.add_zero] at this
        rw [this] at h1
        rw [Nat.zero_add, h1]
        rfl
      have hgF : g ≠ F := fun e => by
        have h1 : wr.heap[F]? = some (.cells cur 37 (0, 0)) := by rw [← e]; exact hgh
        have h2 : wr.heap[F]? = some (.cells #[.slice (some ⟨g, 0, none⟩) i uc, .slice none 0 0] 28 (0, 0)) := hfb6
        rw [h1] at h2
        injection h2 with h2
        injection h2 with _ h3 _
        exact absurd h3 (by decide)
      obtain ⟨t, ht⟩ : ∃ t, cs[J].nm0 = t := ⟨_, rfl⟩
      rw [ht] at hnm hnc
      have j0 : (0 : Int) ≤ (J : Int) := by omega
      have j1 : (J : Int) < (i : Int) := by omega
      have HWJ := Lib.hid hwj; have HROW := Lib.hid hrow0; have HRRW := Lib.hid hrr; have HNM := Lib.hid hnm; have HJ := Lib.hid hJ; have HFB6 := Lib.hid hfb6; have HGF := Lib.hid hgF; have HB6 := Lib.hid (HB5.out.trans (HB.out.mono HB5.out.size)); have HWR := Lib.hid HB.out; have HGL := Lib.hid (own_below hrow0 g rfl).2
      clear hwj hrow0 hrow hrr hnm hJ hgF hic hdr ht hgh hgB HF5 HB5 HFB5 HB eg2
      go_wp2_with fail
      refine region_x 19 (fun w' : World => w'.cell? ⟨F, 0, none⟩ = some (.slice (some ⟨g, 0, none⟩) i uc)) (by kernel_rfl) ?_
      have hS : wr.drew.cell? ⟨F, 0, none⟩ = some (.slice (some ⟨g, 0, none⟩) i uc) := Blk.cell hfb6 0
      have hnc' : wr.drew.cell? ⟨g, J * 6, none⟩ = some (.string t) := by rw [Nat.zero_add] at hnc; exact hnc
      refine anyX_take (i := 0) (v := ?_) rfl (by kernel_rfl) (by kernel_rfl) (by kernel_rfl) (by kernel_rfl) (fun _ _ _ h => h) (Or.inl ⟨by rfl, ?_⟩) hS ?_
      rotate_left
      · rintro w' s0
        go_simp
        try with_reducible rfl
      try simp only [Act.put, List.getElem_toArray, List.getElem_cons_succ, List.getElem_cons_zero, List.setIfInBounds_toArray, List.set_cons_zero, List.set_cons_succ]
      refine anyX_take (i := 1) (v := ?_) rfl (by kernel_rfl) (by kernel_rfl) (by kernel_rfl) (by kernel_rfl) (fun _ _ _ h => h) (Or.inl ⟨by rfl, ?_⟩) hS ?_
      rotate_left
      · rintro w' s0
        go_simp
        try with_reducible rfl
      try simp only [Act.put, List.getElem_toArray, List.getElem_cons_succ, List.getElem_cons_zero, List.setIfInBounds_toArray, List.set_cons_zero, List.set_cons_succ]
      refine anyX_take (i := 2) (v := ?_) rfl (by kernel_rfl) (by kernel_rfl) (by kernel_rfl) (by kernel_rfl) (fun _ _ _ h => h) (Or.inl ⟨by rfl, ?_⟩) hS ?_
      rotate_left
      · rintro w' s0
        go_simp
        try with_reducible rfl
      try simp only [Act.put, List.getElem_toArray, List.getElem_cons_succ, List.getElem_cons_zero, List.setIfInBounds_toArray, List.set_cons_zero, List.set_cons_succ]
      refine anyX_take (i := 3) (v := ?_) rfl (by kernel_rfl) (by kernel_rfl) (by kernel_rfl) (by kernel_rfl) (fun _ _ _ h => h) (Or.inl ⟨by rfl, ?_⟩) hS ?_
      rotate_left
      · rintro w' s0
        go_simp
        try with_reducible rfl
      try simp only [Act.put, List.getElem_toArray, List.getElem_cons_succ, List.getElem_cons_zero, List.setIfInBounds_toArray, List.set_cons_zero, List.set_cons_succ]
      refine anyX_take (i := 4) (v := ?_) rfl (by kernel_rfl) (by kernel_rfl) (by kernel_rfl) (by kernel_rfl) (fun _ _ _ h => h) (Or.inl ⟨by rfl, ?_⟩) hS ?_
      rotate_left
      · rintro w' s0
        go_simp
        try with_reducible rfl
      try simp only [Act.put, List.getElem_toArray, List.getElem_cons_succ, List.getElem_cons_zero, List.setIfInBounds_toArray, List.set_cons_zero, List.set_cons_succ]
      refine anyX_take (i := 5) (v := ?_) rfl (by kernel_rfl) (by kernel_rfl) (by kernel_rfl) (by kernel_rfl) (fun _ _ _ h => h) (Or.inl ⟨by rfl, ?_⟩) hS ?_
      rotate_left
      · rintro w' s0
        go_simp
        try with_reducible rfl
      try simp only [Act.put, List.getElem_toArray, List.getElem_cons_succ, List.getElem_cons_zero, List.setIfInBounds_toArray, List.set_cons_zero, List.set_cons_succ]
      refine anyX_take (i := 6) (v := ?_) rfl (by kernel_rfl) (by kernel_rfl) (by kernel_rfl) (by kernel_rfl) (fun _ _ _ h => h) (Or.inl ⟨by rfl, ?_⟩) hS ?_
      rotate_left
      · rintro w' s0
        go_simp
        try with_reducible rfl
      try simp only [Act.put, List.getElem_toArray, List.getElem_cons_succ, List.getElem_cons_zero, List.setIfInBounds_toArray, List.set_cons_zero, List.set_cons_succ]
      refine anyX_take (i := 7) (v := ?_) rfl (by kernel_rfl) (by kernel_rfl) (by kernel_rfl) (by kernel_rfl) (fun _ _ _ h => h) (Or.inl ⟨by rfl, ?_⟩) hS ?_
      rotate_left
      · rintro w' s0
        go_simp
        try with_reducible rfl
      try simp only [Act.put, List.getElem_toArray, List.getElem_cons_succ, List.getElem_cons_zero, List.setIfInBounds_toArray, List.set_cons_zero, List.set_cons_succ]
      refine anyX_g (i := 8) (by kernel_rfl) (by decide) rfl (by rfl) ?_
      intro K hK
      try simp only [List.getElem_toArray, List.getElem_cons_succ, List.getElem_cons_zero]
      refine wp_enterE #[.int .i64 a1, .int .i64 i] Tryz.func15 (by kernel_rfl) (by kernel_rfl) ?_ (HWJ.out wr.drew) ?_
      · go_simp
      rintro e W ⟨rfl, rfl⟩
      refine ⟨_, rfl, ?_⟩
      refine hK _ _ hS ?_
      clear hK
      try simp only [Act.put, List.getElem_toArray, List.getElem_cons_succ, List.getElem_cons_zero, List.setIfInBounds_toArray, List.set_cons_zero, List.set_cons_succ]
      refine anyX_take (i := 9) (v := ?_) rfl (by kernel_rfl) (by kernel_rfl) (by kernel_rfl) (by kernel_rfl) (fun _ _ _ h => h) (Or.inl ⟨by rfl, ?_⟩) hS ?_
      rotate_left
      · rintro w' s0
        go_simp
        try with_reducible rfl
      try simp only [Act.put, List.getElem_toArray, List.getElem_cons_succ, List.getElem_cons_zero, List.setIfInBounds_toArray, List.set_cons_zero, List.set_cons_succ]
      refine anyX_take (i := 10) (v := ?_) rfl (by kernel_rfl) (by kernel_rfl) (by kernel_rfl) (by kernel_rfl) (fun _ _ _ h => h) (Or.inl ⟨by rfl, ?_⟩) hS ?_
      rotate_left
      · rintro w' s0
        go_simp
        try with_reducible rfl
      try simp only [Act.put, List.getElem_toArray, List.getElem_cons_succ, List.getElem_cons_zero, List.setIfInBounds_toArray, List.set_cons_zero, List.set_cons_succ]
      refine anyX_g (i := 11) (by kernel_rfl) (by decide) rfl (by rfl) ?_
      intro K hK
      try simp only [List.getElem_toArray, List.getElem_cons_succ, List.getElem_cons_zero]
      go_simp
      refine hK _ _ hS ?_
      clear hK
      try simp only [Act.put, List.getElem_toArray, List.getElem_cons_succ, List.getElem_cons_zero, List.setIfInBounds_toArray, List.set_cons_zero, List.set_cons_succ]
      refine anyX_take (i := 12) (v := ?_) rfl (by kernel_rfl) (by kernel_rfl) (by kernel_rfl) (by kernel_rfl) (fun _ _ _ h => h) (Or.inl ⟨by rfl, ?_⟩) hS ?_
      rotate_left
      · rintro w' s0
        go_simp
        try with_reducible rfl
      try simp only [Act.put, List.getElem_toArray, List.getElem_cons_succ, List.getElem_cons_zero, List.setIfInBounds_toArray, List.set_cons_zero, List.set_cons_succ]
      refine anyX_g (i := 13) (by kernel_rfl) (by decide) rfl (by rfl) ?_
      intro K hK
      try simp only [List.getElem_toArray, List.getElem_cons_succ, List.getElem_cons_zero]
      go_simp
      have hb7w : Below wr.heap.size wr (wr.alloc (.cells #[.int .i64 2, .int .i64 0, .int .i64 0, .string t, .slice none 0 0] 35)).drew := ((Below.refl _ wr).alloc (Nat.le_refl _) _).drew
      have hS7 : (wr.alloc (.cells #[.int .i64 2, .int .i64 0, .int .i64 0, .string t, .slice none 0 0] 35)).drew.cell? ⟨F, 0, none⟩ = some (.slice (some ⟨g, 0, none⟩) i uc) := bel_cell (w := wr) hb7w hS
      refine hK _ _ hS7 ?_
      clear hK
      try simp only [Act.put, List.getElem_toArray, List.getElem_cons_succ, List.getElem_cons_zero, List.setIfInBounds_toArray, List.set_cons_zero, List.set_cons_succ]
      obtain ⟨W7, hW7⟩ : ∃ W7, (wr.alloc (.cells #[.int .i64 2, .int .i64 0, .int .i64 0, .string t, .slice none 0 0] 35)).drew = W7 := ⟨_, rfl⟩
      have htv : TreeV false (wr.alloc (.cells #[.int .i64 2, .int .i64 0, .int .i64 0, .string t, .slice none 0 0] 35)) (fun g => wr.heap.size ≤ g) (.agg #[.int .i64 4, .int .i64 0, .int .i64 0, .string ⟨#[]⟩, .slice (some ⟨wr.heap.size, 0, none⟩) 1 1]) (defX t.data.toList).c.tree := TreeV.one5 4 0 0 (Blk.new wr _ _) (leaf5 _ 2 0 0 t) (Nat.le_refl _)
      have htv := htv.keep (w' := W7) (fun _ h => h) (fun _ _ _ _ h => by rw [← hW7]; exact h)
      rw [hW7] at hb7w hS7 ⊢
      refine anyX_take (i := 14) (v := ?_) rfl (by kernel_rfl) (by kernel_rfl) (by kernel_rfl) (by kernel_rfl) (fun _ _ _ h => h) (Or.inl ⟨by rfl, ?_⟩) hS7 ?_
      rotate_left
      · rintro w' s0
        go_simp
        try with_reducible rfl
      try simp only [Act.put, List.getElem_toArray, List.getElem_cons_succ, List.getElem_cons_zero, List.setIfInBounds_toArray, List.set_cons_zero, List.set_cons_succ]
      refine anyX_take (i := 15) (v := ?_) rfl (by kernel_rfl) (by kernel_rfl) (by kernel_rfl) (by kernel_rfl) (fun _ _ _ h => h) (Or.inl ⟨by rfl, ?_⟩) hS7 ?_
      rotate_left
      · rintro w' s0
        go_simp
        try with_reducible rfl
      try simp only [Act.put, List.getElem_toArray, List.getElem_cons_succ, List.getElem_cons_zero, List.setIfInBounds_toArray, List.set_cons_zero, List.set_cons_succ]
      refine anyX_g (i := 16) (by kernel_rfl) (by decide) rfl (by rfl) ?_
      intro K hK
      try simp only [List.getElem_toArray, List.getElem_cons_succ, List.getElem_cons_zero]
      go_simp
      have hb8 : Below W7.heap.size W7 (W7.alloc (.cells #[.string ⟨#[120]⟩, .int .i64 4, .int .i64 0, .int .i64 0, .string ⟨#[]⟩, .slice (some ⟨wr.heap.size, 0, none⟩) 1 1] 37)) := (Below.refl _ _).alloc (Nat.le_refl _) _
      have hS8 : (W7.alloc (.cells #[.string ⟨#[120]⟩, .int .i64 4, .int .i64 0, .int .i64 0, .string ⟨#[]⟩, .slice (some ⟨wr.heap.size, 0, none⟩) 1 1] 37)).cell? ⟨F, 0, none⟩ = some (.slice (some ⟨g, 0, none⟩) i uc) := bel_cell hb8 hS7
      refine hK _ _ hS8 ?_
      clear hK
      try simp only [Act.put, List.getElem_toArray, List.getElem_cons_succ, List.getElem_cons_zero, List.setIfInBounds_toArray, List.set_cons_zero, List.set_cons_succ]
      refine anyX_g (i := 17) (by kernel_rfl) (by decide) rfl (by rfl) ?_
      intro K hK
      try simp only [List.getElem_toArray, List.getElem_cons_succ, List.getElem_cons_zero]
      have hrow7 := World.ownsRow.kept HROW.out (w' := W7) (only_of_below hb7w none) (none_or _)
      refine wp_pushK rfl (.tmp 41) (.tmp 56) 24 37 rfl 6 80 _ Tryz.underlying24 info_def rfl (by omega) (by omega) W1.heap.size (.slice (some ⟨g, 0, none⟩) i uc) i (cs.flatMap DCell.enc) (by rfl) (World.ownsRow.alloc hrow7 _) W7.heap.size (by rfl) #[.string ⟨#[120]⟩, .int .i64 4, .int .i64 0, .int .i64 0, .string ⟨#[]⟩, .slice (some ⟨wr.heap.size, 0, none⟩) 1 1] rfl (Blk.new W7 _ _) (by simp [Value.oneCell']) (by omega) (by have := (own_below hrow7 g rfl).1; have := (own_below hrow7 g rfl).2; simp; omega) ?_
      intro g2 cap2 w5 hown5 hgr5 hat5
      have hrr' : RowRel (DefR wr (fun b => W1.heap.size ≤ b ∧ some b ≠ (Value.slice (some ⟨g, 0, none⟩) i uc).ownBlock ∧ b ≠ F)) cs ((defsOf ns).map DefP.tree) := HRRW.out
      have hFw : F < wr.heap.size := HFB6.out.lt
      have hvg : ∀ k, (Value.slice (some ⟨g, 0, none⟩) i uc).ownBlock = some k → k < wr.heap.size ∧ k ≠ F := fun k e => by injection e with e; subst e; exact ⟨HGL.out, HGF.out⟩
      have hmore := fun y => DefsOwnF.more (x := ⟨⟨#[120]⟩, 4, 0, 0, ⟨#[]⟩, some ⟨wr.heap.size, 0, none⟩, 1, 1⟩) (d := (defX t.data.toList).tree) hrr' hvg hFw hb7w (.cells #[.string ⟨#[120]⟩, .int .i64 4, .int .i64 0, .int .i64 0, .string ⟨#[]⟩, .slice (some ⟨wr.heap.size, 0, none⟩) 1 1] 37) hgr5 hat5 (by rw [HLM.out]; exact hown5) ⟨rfl, htv⟩ 0 y
      rw [HLM.out] at hmore
      have hF8 : Blk (W7.alloc (.cells #[.string ⟨#[120]⟩, .int .i64 4, .int .i64 0, .int .i64 0, .string ⟨#[]⟩, .slice (some ⟨wr.heap.size, 0, none⟩) 1 1] 37)) F 28 #[.slice (some ⟨g, 0, none⟩) i uc, .slice none 0 0] := Blk.alloc (Blk.below HFB6.out hb7w HFB6.out.lt) _
      have hfb5 : Blk w5 F 28 #[.slice (some ⟨g, 0, none⟩) i uc, .slice none 0 0] := Blk.grown hF8 hgr5 (fun e => by injection e with e; exact HGF.out e.symm)
      have hcapm := own_capm hown5
      have hcap := own_cap hown5
      have hwb : W5.grownBy w5 (some g) := only_trans (only_of_below (HWR.out.trans ((hb7w.mono HWR.out.size).trans (hb8.mono (Nat.le_trans HWR.out.size hb7w.size)))) _) hgr5
      have hB5w : Below w.heap.size w w5 := below_own (HB6.out.trans ((hb7w.mono HB6.out.size).trans (hb8.mono (Nat.le_trans HB6.out.size hb7w.size)))) hgr5 (Nat.le_trans HB6.out.size (Nat.le_trans hb7w.size hb8.size)) (fun j e => by injection e with e; subst e; exact Nat.le_trans HBW.out (own_below hrow7 g rfl).1)
      have hS9 : w5.cell? ⟨F, 0, none⟩ = some (.slice (some ⟨g, 0, none⟩) i uc) := Blk.cell hfb5 0
      refine hK _ _ hS9 ?_
      clear hK
      try simp only [Act.put, List.getElem_toArray, List.getElem_cons_succ, List.getElem_cons_zero, List.setIfInBounds_toArray, List.set_cons_zero, List.set_cons_succ]
      refine anyX_take (i := 18) (v := ?_) rfl (by kernel_rfl) (by kernel_rfl) (by kernel_rfl) (by kernel_rfl) (fun _ _ _ h => h) (Or.inl ⟨by rfl, ?_⟩) hS9 ?_
      rotate_left
      · rintro w' s0
        go_simp
        try with_reducible rfl
      try simp only [Act.put, List.getElem_toArray, List.getElem_cons_succ, List.getElem_cons_zero, List.setIfInBounds_toArray, List.set_cons_zero, List.set_cons_succ]
      clear hS9
      have c0 := Blk.cell hfb5 0; have c1 := Blk.cell hfb5 1; have fr := Blk.frozen hfb5 0
      simp only [List.getElem?_toArray, List.getElem?_cons_zero, List.getElem?_cons_succ] at c0 c1
      have HMORE := Lib.hid hmore; have HFB5 := Lib.hid hfb5; have HWB := Lib.hid hwb; have HB5w := Lib.hid hB5w
      clear hmore hfb5 hwb hB5w hF8 hrr' hFw hvg hown5 hgr5 hat5 hrow7 hb8 hS8 hb7w hS7 htv hnc hnc' hfb6 hS HROW HRRW hW7
      refine anyX_last (by kernel_rfl) (by kernel_rfl) rfl rfl ?_
      try simp only [List.getElem_toArray, List.getElem_cons_succ, List.getElem_cons_zero]
      go_simp
      try apply_assumption
      have hgFF : g < F := HUGF.out g rfl
      obtain ⟨L, hL⟩ : ∃ L, SS.getD J [] = L := ⟨_, rfl⟩
      have hc := sets_ok (defsOf ns ++ [defX t.data.toList]) (by rw [List.length_append, HN.out]; simp; omega) (w5.setCell ⟨F, 0, none⟩ (.slice (some ⟨g2, 0, none⟩) (i + 1) cap2)) (.slice (some ⟨g2, 0, none⟩) (i + 1) cap2) none 0 0 (by have := HMORE.out (.slice (some ⟨g2, 0, none⟩) (i + 1) cap2); rw [List.map_append]; exact this) (fun A m c e h => by injection e with e1 e2 e3; rw [← e1] at h; cases h)
      have hmo := setsOf_more ns J (by rw [HN.out]; exact hJn)
      rw [← HNM.out, HSE.out, hL] at hmo
      have hle : (defsOf ns ++ [defX t.data.toList]).length = (defsOf ns).length + 1 := by simp
      rw [hle, hmo] at hc
      have hLrt : Rt L := by
        have hJS : J < SS.length := by rw [HSL.out]; exact hJn
        have e : L = SS[J] := by rw [← hL]; simp [List.getD, hJS]
        rw [e]; exact HRT.out _ (List.getElem_mem hJS)
      obtain ⟨gb, cb, ub, ebv, hbu, hel⟩ := HRO.out.get J (by rw [HSL.out]; exact hJn)
      have hgb : W4.heap.size ≤ gb := by
        obtain ⟨us, h1, _⟩ := HRO.out
        exact (own_below h1 gb (by rw [ebv]; rfl)).1
      injection ebv with eb1 eb2 eb3
      subst eb1
      have hele : SS[J]'(by rw [HSL.out]; exact hJn) = L := by
        have hJS : J < SS.length := by rw [HSL.out]; exact hJn
        rw [← hL]; simp [List.getD, hJS]
      rw [hele] at hel
      obtain ⟨hrub, hbub⟩ := hel
      have HC := Lib.hid hc; have HLR := Lib.hid hLrt; have HBU := Lib.hid hbu; have HRUB := Lib.hid hrub; have HBUB := Lib.hid hbub
      clear hc hmo hle hLrt hbu hrub hbub hL hele eb2 eb3 HMORE
      go_wp2_with fail
      refine HC.out.mono ?_
      rintro e w9 ⟨cv, rfl, hco, hb9⟩
      have hcr : ReadsL w9 cv (i + 1) (SS ++ [notL L]) := by
        have := hco.reads
        rw [List.length_append, HSL.out] at this; exact this
      obtain ⟨gc, oc, cc, u, rfl, hcu, hru⟩ := hcr.get i (by omega)
      have egd : (SS ++ [notL L]).getD i [] = notL L := by rw [← HSL.out]; simp
      rw [egd] at hru
      have hk9 : ∀ b, W4.heap.size ≤ b → ∀ o x, W5.cell? ⟨b, o, none⟩ = some x → w9.cell? ⟨b, o, none⟩ = some x := fun b hb o x hx =>
        bel_cell hb9 (cell_far (HWB.out.cell hx (fun e => by injection e with e; have e' : b = g := e; omega)) (by show b ≠ F; omega))
      have hbu9 := hk9 gb hgb _ _ HBU.out
      have hrub9 := HRUB.out.block (w' := w9) fun b hb o x hx => hk9 b (HBUB.out b hb).1 o x hx
      obtain ⟨ua, uac, rfl, -⟩ := hru.form
      obtain ⟨ub1, ubc, rfl, -⟩ := hrub9.form
      have hnot := rnot_any hrub9.drew HLR.out
      have hsame := fun W (hW : Below w9.heap.size w9 W) x (hx : ReadsP W x (notL L).length (notL L)) => same_any (hru.below hW) hx
      obtain ⟨m1, hm1⟩ : ∃ m, (notL L).length = m := ⟨_, rfl⟩
      obtain ⟨m2, hm2⟩ : ∃ m, L.length = m := ⟨_, rfl⟩
      rw [hm1] at hsame hcu
      rw [hm2] at hnot hbu9
      have hb9w : Below w.heap.size w w9 := (HB5w.out.setCell (p := ⟨F, 0, none⟩) hwF _).trans (hb9.mono (HB5w.out.setCell (p := ⟨F, 0, none⟩) hwF _).size)
      have hcapc : i + 1 ≤ cc := by
        obtain ⟨_, a', c', e, h1, _⟩ := hcr
        injection e with e1 e2 e3
        omega
      have HNOT := Lib.hid hnot; have HSAME := Lib.hid hsame; have HCU := Lib.hid hcu; have HBU9 := Lib.hid hbu9; have HB9 := Lib.hid hb9w; have HM1 := Lib.hid hm1
      clear hnot hsame hb9w hrub9 hru hcr hco hb9 hk9 hm1 hm2 egd HC HBU HRUB HBUB HLR HWB HB5w HFB5 c0 c1 fr
      have hwj9 := HWJ.out
      go_wp2_with fail
      have ts : IntKind.i64.wrap ((i : Int) + 1) = (i : Int) + 1 := IntWalk.i64_in _ (by omega)
      have tq : (((i + 1 : Nat) : Int) == (i : Int) + 1) = true := by simp
      have ti1 : i < i + 1 := by omega
      have tiI : (i : Int) < (i : Int) + 1 := by omega
      have hS : w9.drew.cell? ⟨gc, oc + i, none⟩ = some (.slice ua m1 uac) ∧ w9.drew.cell? ⟨gb, J, none⟩ = some (.slice ub1 m2 ubc) := ⟨HCU.out, HBU9.out⟩
      refine region_x 22 (fun w' : World => w'.cell? ⟨gc, oc + i, none⟩ = some (.slice ua m1 uac) ∧ w'.cell? ⟨gb, J, none⟩ = some (.slice ub1 m2 ubc)) (by kernel_rfl) ?_
      refine anyX_take (i := 0) (v := ?_) rfl (by kernel_rfl) (by kernel_rfl) (by kernel_rfl) (by kernel_rfl) (fun _ _ _ h => h) (Or.inl ⟨by rfl, ?_⟩) hS ?_
      rotate_left
      · rintro w' ⟨s0, s1⟩
        go_simp
        try with_reducible rfl
      try simp only [Act.put, List.getElem_toArray, List.getElem_cons_succ, List.getElem_cons_zero, List.setIfInBounds_toArray, List.set_cons_zero, List.set_cons_succ]
      refine anyX_take (i := 1) (v := ?_) rfl (by kernel_rfl) (by kernel_rfl) (by kernel_rfl) (by kernel_rfl) (fun _ _ _ h => h) (Or.inl ⟨by rfl, ?_⟩) hS ?_
      rotate_left
      · rintro w' ⟨s0, s1⟩
        go_simp
        try with_reducible rfl
      try simp only [Act.put, List.getElem_toArray, List.getElem_cons_succ, List.getElem_cons_zero, List.setIfInBounds_toArray, List.set_cons_zero, List.set_cons_succ]
      refine anyX_take (i := 2) (v := ?_) rfl (by kernel_rfl) (by kernel_rfl) (by kernel_rfl) (by kernel_rfl) (fun _ _ _ h => h) (Or.inl ⟨by rfl, ?_⟩) hS ?_
      rotate_left
      · rintro w' ⟨s0, s1⟩
        go_simp
        try with_reducible rfl
      try simp only [Act.put, List.getElem_toArray, List.getElem_cons_succ, List.getElem_cons_zero, List.setIfInBounds_toArray, List.set_cons_zero, List.set_cons_succ]
      refine anyX_take (i := 3) (v := ?_) rfl (by kernel_rfl) (by kernel_rfl) (by kernel_rfl) (by kernel_rfl) (fun _ _ _ h => h) (Or.inl ⟨by rfl, ?_⟩) hS ?_
      rotate_left
      · rintro w' ⟨s0, s1⟩
        go_simp
        try with_reducible rfl
      try simp only [Act.put, List.getElem_toArray, List.getElem_cons_succ, List.getElem_cons_zero, List.setIfInBounds_toArray, List.set_cons_zero, List.set_cons_succ]
      refine anyX_take (i := 4) (v := .int .i64 ((i : Int) + 1)) rfl (by kernel_rfl) (by kernel_rfl) (by kernel_rfl) (by kernel_rfl) (fun _ _ _ h => h) (Or.inl ⟨by rfl, ?_⟩) hS ?_
      · rintro w' ⟨s0, s1⟩
        go_simp
        try with_reducible rfl
      try simp only [Act.put, List.getElem_toArray, List.getElem_cons_succ, List.getElem_cons_zero, List.setIfInBounds_toArray, List.set_cons_zero, List.set_cons_succ]
      refine anyX_take (i := 5) (v := .bool true) rfl (by kernel_rfl) (by kernel_rfl) (by kernel_rfl) (by kernel_rfl) (fun _ _ _ h => h) (Or.inl ⟨by rfl, ?_⟩) hS ?_
      · rintro w' ⟨s0, s1⟩
        go_simp
        try with_reducible rfl
      try simp only [Act.put, List.getElem_toArray, List.getElem_cons_succ, List.getElem_cons_zero, List.setIfInBounds_toArray, List.set_cons_zero, List.set_cons_succ]
      refine anyX_take (i := 6) (v := ?_) rfl (by kernel_rfl) (by kernel_rfl) (by kernel_rfl) (by kernel_rfl) (fun _ _ _ h => h) (Or.inl ⟨by rfl, ?_⟩) hS ?_
      rotate_left
      · rintro w' ⟨s0, s1⟩
        go_simp
        try with_reducible rfl
      try simp only [Act.put, List.getElem_toArray, List.getElem_cons_succ, List.getElem_cons_zero, List.setIfInBounds_toArray, List.set_cons_zero, List.set_cons_succ]
      refine anyX_take (i := 7) (v := ?_) rfl (by kernel_rfl) (by kernel_rfl) (by kernel_rfl) (by kernel_rfl) (fun _ _ _ h => h) (Or.inl ⟨by rfl, ?_⟩) hS ?_
      rotate_left
      · rintro w' ⟨s0, s1⟩
        go_simp
        try with_reducible rfl
      try simp only [Act.put, List.getElem_toArray, List.getElem_cons_succ, List.getElem_cons_zero, List.setIfInBounds_toArray, List.set_cons_zero, List.set_cons_succ]
      refine anyX_take (i := 8) (v := ?_) rfl (by kernel_rfl) (by kernel_rfl) (by kernel_rfl) (by kernel_rfl) (fun _ _ _ h => h) (Or.inl ⟨by rfl, ?_⟩) hS ?_
      rotate_left
      · rintro w' ⟨s0, s1⟩
        go_simp
        try with_reducible rfl
      try simp only [Act.put, List.getElem_toArray, List.getElem_cons_succ, List.getElem_cons_zero, List.setIfInBounds_toArray, List.set_cons_zero, List.set_cons_succ]
      refine anyX_take (i := 9) (v := ?_) rfl (by kernel_rfl) (by kernel_rfl) (by kernel_rfl) (by kernel_rfl) (fun _ _ _ h => h) (Or.inl ⟨by rfl, ?_⟩) hS ?_
      rotate_left
      · rintro w' ⟨s0, s1⟩
        go_simp
        try with_reducible rfl
      try simp only [Act.put, List.getElem_toArray, List.getElem_cons_succ, List.getElem_cons_zero, List.setIfInBounds_toArray, List.set_cons_zero, List.set_cons_succ]
      refine anyX_take (i := 10) (v := ?_) rfl (by kernel_rfl) (by kernel_rfl) (by kernel_rfl) (by kernel_rfl) (fun _ _ _ h => h) (Or.inl ⟨by rfl, ?_⟩) hS ?_
      rotate_left
      · rintro w' ⟨s0, s1⟩
        go_simp
        try with_reducible rfl
      try simp only [Act.put, List.getElem_toArray, List.getElem_cons_succ, List.getElem_cons_zero, List.setIfInBounds_toArray, List.set_cons_zero, List.set_cons_succ]
      refine anyX_take (i := 11) (v := ?_) rfl (by kernel_rfl) (by kernel_rfl) (by kernel_rfl) (by kernel_rfl) (fun _ _ _ h => h) (Or.inl ⟨by rfl, ?_⟩) hS ?_
      rotate_left
      · rintro w' ⟨s0, s1⟩
        go_simp
        try with_reducible rfl
      try simp only [Act.put, List.getElem_toArray, List.getElem_cons_succ, List.getElem_cons_zero, List.setIfInBounds_toArray, List.set_cons_zero, List.set_cons_succ]
      refine anyX_take (i := 12) (v := ?_) rfl (by kernel_rfl) (by kernel_rfl) (by kernel_rfl) (by kernel_rfl) (fun _ _ _ h => h) (Or.inl ⟨by rfl, ?_⟩) hS ?_
      rotate_left
      · rintro w' ⟨s0, s1⟩
        go_simp
        try with_reducible rfl
      try simp only [Act.put, List.getElem_toArray, List.getElem_cons_succ, List.getElem_cons_zero, List.setIfInBounds_toArray, List.set_cons_zero, List.set_cons_succ]
      refine anyX_take (i := 13) (v := ?_) rfl (by kernel_rfl) (by kernel_rfl) (by kernel_rfl) (by kernel_rfl) (fun _ _ _ h => h) (Or.inl ⟨by rfl, ?_⟩) hS ?_
      rotate_left
      · rintro w' ⟨s0, s1⟩
        go_simp
        try with_reducible rfl
      try simp only [Act.put, List.getElem_toArray, List.getElem_cons_succ, List.getElem_cons_zero, List.setIfInBounds_toArray, List.set_cons_zero, List.set_cons_succ]
      refine anyX_take (i := 14) (v := ?_) rfl (by kernel_rfl) (by kernel_rfl) (by kernel_rfl) (by kernel_rfl) (fun _ _ _ h => h) (Or.inl ⟨by rfl, ?_⟩) hS ?_
      rotate_left
      · rintro w' ⟨s0, s1⟩
        go_simp
        try with_reducible rfl
      try simp only [Act.put, List.getElem_toArray, List.getElem_cons_succ, List.getElem_cons_zero, List.setIfInBounds_toArray, List.set_cons_zero, List.set_cons_succ]
      refine anyX_take (i := 15) (v := ?_) rfl (by kernel_rfl) (by kernel_rfl) (by kernel_rfl) (by kernel_rfl) (fun _ _ _ h => h) (Or.inl ⟨by rfl, ?_⟩) hS ?_
      rotate_left
      · rintro w' ⟨s0, s1⟩
        go_simp
        try with_reducible rfl
      try simp only [Act.put, List.getElem_toArray, List.getElem_cons_succ, List.getElem_cons_zero, List.setIfInBounds_toArray, List.set_cons_zero, List.set_cons_succ]
      refine anyX_g (i := 16) (by kernel_rfl) (by decide) rfl (by rfl) ?_
      intro K hK
      try simp only [List.getElem_toArray, List.getElem_cons_succ, List.getElem_cons_zero]
      refine wp_enterE #[.int .i64 a1, .int .i64 i] Tryz.func15 (by kernel_rfl) (by kernel_rfl) ?_ (hwj9 w9.drew) ?_
      · go_simp
      rintro e W ⟨rfl, rfl⟩
      refine ⟨_, rfl, ?_⟩
      refine hK _ _ hS ?_
      clear hK
      try simp only [Act.put, List.getElem_toArray, List.getElem_cons_succ, List.getElem_cons_zero, List.setIfInBounds_toArray, List.set_cons_zero, List.set_cons_succ]
      refine anyX_take (i := 17) (v := ?_) rfl (by kernel_rfl) (by kernel_rfl) (by kernel_rfl) (by kernel_rfl) (fun _ _ _ h => h) (Or.inl ⟨by rfl, ?_⟩) hS ?_
      rotate_left
      · rintro w' ⟨s0, s1⟩
        go_simp
        try with_reducible rfl
      try simp only [Act.put, List.getElem_toArray, List.getElem_cons_succ, List.getElem_cons_zero, List.setIfInBounds_toArray, List.set_cons_zero, List.set_cons_succ]
      refine anyX_take (i := 18) (v := ?_) rfl (by kernel_rfl) (by kernel_rfl) (by kernel_rfl) (by kernel_rfl) (fun _ _ _ h => h) (Or.inl ⟨by rfl, ?_⟩) hS ?_
      rotate_left
      · rintro w' ⟨s0, s1⟩
        go_simp
        try with_reducible rfl
      try simp only [Act.put, List.getElem_toArray, List.getElem_cons_succ, List.getElem_cons_zero, List.setIfInBounds_toArray, List.set_cons_zero, List.set_cons_succ]
      refine anyX_g (i := 19) (by kernel_rfl) (by decide) rfl (by rfl) ?_
      intro K hK
      try simp only [List.getElem_toArray, List.getElem_cons_succ, List.getElem_cons_zero]
      refine wp_enterE #[.slice ub1 m2 ubc] Tryz.func16 (by kernel_rfl) (by kernel_rfl) ?_ (HNOT.out) ?_
      · go_simp
      rintro e w10 ⟨nv, rfl, hno, hb10⟩
      refine ⟨_, rfl, ?_⟩
      have hb10' : Below w9.heap.size w9 w10 := (Below.refl _ w9).drew.trans hb10
      have hS10 : w10.cell? ⟨gc, oc + i, none⟩ = some (.slice ua m1 uac) ∧ w10.cell? ⟨gb, J, none⟩ = some (.slice ub1 m2 ubc) := ⟨bel_cell hb10' HCU.out, bel_cell hb10' HBU9.out⟩
      have hsm := HSAME.out w10 hb10' nv (by have := hno.reads; rw [HM1.out] at this; exact this)
      obtain ⟨na, nc, rfl, -⟩ := hno.reads.form
      rw [HM1.out] at hsm ⊢
      refine hK _ _ hS10 ?_
      clear hK
      try simp only [Act.put, List.getElem_toArray, List.getElem_cons_succ, List.getElem_cons_zero, List.setIfInBounds_toArray, List.set_cons_zero, List.set_cons_succ]
      refine anyX_g (i := 20) (by kernel_rfl) (by decide) rfl (by rfl) ?_
      intro K hK
      try simp only [List.getElem_toArray, List.getElem_cons_succ, List.getElem_cons_zero]
      refine wp_enterE #[.slice ua m1 uac, .slice na m1 nc] Tryz.func14 (by kernel_rfl) (by kernel_rfl) ?_ (hsm) ?_
      · go_simp
      rintro e w11 ⟨rfl, hb11⟩
      refine ⟨_, rfl, ?_⟩
      have hS11 : w11.cell? ⟨gc, oc + i, none⟩ = some (.slice ua m1 uac) ∧ w11.cell? ⟨gb, J, none⟩ = some (.slice ub1 m2 ubc) := ⟨bel_cell hb11 hS10.1, bel_cell hb11 hS10.2⟩
      refine hK _ _ hS11 ?_
      clear hK
      try simp only [Act.put, List.getElem_toArray, List.getElem_cons_succ, List.getElem_cons_zero, List.setIfInBounds_toArray, List.set_cons_zero, List.set_cons_succ]
      refine anyX_take (i := 21) (v := ?_) rfl (by kernel_rfl) (by kernel_rfl) (by kernel_rfl) (by kernel_rfl) (fun _ _ _ h => h) (Or.inl ⟨by rfl, ?_⟩) hS11 ?_
      rotate_left
      · rintro w' ⟨s0, s1⟩
        go_simp
        try with_reducible rfl
      try simp only [Act.put, List.getElem_toArray, List.getElem_cons_succ, List.getElem_cons_zero, List.setIfInBounds_toArray, List.set_cons_zero, List.set_cons_succ]
      have HFIN := Lib.hid (HB9.out.trans ((hb10'.mono HB9.out.size).trans (hb11.mono (Nat.le_trans HB9.out.size hb10'.size))))
      clear hb10 hb10' hb11 hS10 hS11 hS hsm hno
      refine anyX_last (by kernel_rfl) (by kernel_rfl) rfl rfl ?_
      try simp only [List.getElem_toArray, List.getElem_cons_succ, List.getElem_cons_zero]
      go_simp
      try apply_assumption
      go_wp2_with fail
      go_ret
      exact ⟨rfl, HFIN.out⟩
end Go.Proofs.YtalgnnidhnhciaaGreatDoor
