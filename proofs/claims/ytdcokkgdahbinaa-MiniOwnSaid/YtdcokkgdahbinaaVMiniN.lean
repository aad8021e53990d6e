/- net.fewest. -/
import Derived.Test.YtdcokkgdahbinaaVMiniL
import Derived.Test.YtdcokkgdahbinaaVTwoRows
import Derived.Test.YtdcokkgdahbinaaVLL
set_option linter.unusedVariables false
set_option linter.unusedSimpArgs false
set_option maxRecDepth 100000
set_option maxHeartbeats 8000000
namespace Go.Proofs.Ytdcokkgdahbinaa
open Go Go.RowKit Go.Proofs
theorem blk_ne2 {w : World} {b b' : Nat} {t t' : TypeId} {cs cs' : Array Value} (h : Blk w b t cs) (h' : Blk w b' t' cs') (hne : t ≠ t') : ¬ b = b' := by
 intro e
 subst e
 unfold Blk at h h'
 rw [h] at h'
 injection h' with h'
 injection h' with h1 h2 h3
 exact hne h2
def EF (f : Nat -> Nat) (u t : Nat) : Bool := decide (f u = f t)
theorem EF.eqv (f : Nat -> Nat) : EqvN (EF f) := ⟨fun x => by simp [EF], fun x y h => by simp [EF] at h ⊢; exact h.symm, fun x y z h h' => by simp [EF] at h h' ⊢; exact h.trans h'⟩
theorem EF.step {α : Type} {g : Nat -> α} {T : List (List Nat)} {k : Nat} {f : Nat -> Nat} (hT : RectN T k) (hf : ∀ x y, x < T.length -> y < T.length -> (f x = f y ↔ AlikeN T k g x y)) : StepN T k (EF f) := fun x y a hx hy ha h => by
 simp [EF] at h ⊢
 exact (hf _ _ (hT.lt x a hx ha) (hT.lt y a hy ha)).2 (((hf x y hx hy).1 h).step ha)
theorem add_map (f : Nat -> Nat) (l : List Nat) (s : Nat) : metL (l.map f) (f s) = (addN (EF f) l s).map f := by
 unfold metL addN
 have e : f s ∈ l.map f ↔ l.any (fun u => EF f u s) = true := by
  rw [List.mem_map, List.any_eq_true]
  simp [EF]
 by_cases h : f s ∈ l.map f
 ·rw [if_pos h, if_pos (e.1 h)]
 ·rw [if_neg h, if_neg (fun q => h (e.2 q)), List.map_append]; rfl
theorem idx_map (f : Nat -> Nat) (s : Nat) : ∀ l : List Nat, (l.map f).idxOf (f s) = ixN (EF f) l s
 | [] => rfl
 | x :: l => by
   unfold ixN
   rw [List.map_cons, List.idxOf_cons, List.findIdx_cons]
   have ih := idx_map f s l
   unfold ixN at ih
   by_cases e : f x = f s
   ·have h1 : (f x == f s) = true := by simp [e]
    have h2 : EF f x s = true := by simp [EF, e]
    rw [h1, h2]; rfl
   ·have h1 : (f x == f s) = false := by simpa using e
    have h2 : EF f x s = false := by simp [EF, e]
    rw [h1, h2]
    simp only [cond_false]
    rw [ih]
theorem ix_pre (E : Nat -> Nat -> Bool) (l r : List Nat) (s : Nat) (h : l.any (fun u => E u s) = true) : ixN E (l ++ r) s = ixN E l s := by
 unfold ixN
 rw [List.findIdx_append]
 have : l.findIdx (fun u => E u s) < l.length := by
  rw [List.findIdx_lt_length]
  obtain ⟨u, hu, e⟩ := List.any_eq_true.1 h
  exact ⟨u, hu, e⟩
 rw [if_pos this]
theorem add_any {E : Nat -> Nat -> Bool} (hE : EqvN E) (l : List Nat) (s : Nat) : (addN E l s).any (fun u => E u s) = true := by
 unfold addN
 split
 ·assumption
 ·rw [List.any_append]; simp [hE.refl]
theorem add_new {E : Nat -> Nat -> Bool} (hE : EqvN E) (l : List Nat) (s : Nat) : (ixN E (addN E l s) s = l.length /\ addN E l s = l ++ [s]) \/ (ixN E (addN E l s) s < l.length /\ addN E l s = l) := by
 unfold addN
 split
 ·rename_i h
  refine .inr ⟨?_, rfl⟩
  unfold ixN
  rw [List.findIdx_lt_length]
  obtain ⟨u, hu, e⟩ := List.any_eq_true.1 h
  exact ⟨u, hu, e⟩
 ·rename_i h
  refine .inl ⟨?_, rfl⟩
  unfold ixN
  rw [List.findIdx_append, if_neg]
  ·simp [List.findIdx_cons, hE.refl]
  ·rw [List.findIdx_lt_length]
   rintro ⟨u, hu, e⟩
   exact h (List.any_eq_true.2 ⟨u, hu, e⟩)
def fiL (T : List (List Nat)) (E : Nat -> Nat -> Bool) (j : Nat) : List Nat := onceN E ((metN T).take j)
def naF (T : List (List Nat)) (E : Nat -> Nat -> Bool) (j : Nat) (x : Nat) : Int := if x ∈ (metN T).take j then (ixN E (repN T E) x : Nat) else -1
section
variable {T : List (List Nat)} {k : Nat} {E : Nat -> Nat -> Bool} {j s : Nat}
theorem fiL_succ (hs : (metN T)[j]? = some s) : fiL T E (j + 1) = addN E (fiL T E j) s := by
 unfold fiL
 rw [List.take_add_one, hs]
 exact onceN_snoc E _ s
theorem fiL_all (hT : RectN T k) (hE : EqvN E) (hS : StepN T k E) : fiL T E (metN T).length = repN T E := by
 unfold fiL
 rw [List.take_of_length_le (Nat.le_refl _)]
 exact once_met hT hE hS
theorem fiL_pre (hT : RectN T k) (hE : EqvN E) (hS : StepN T k E) (j : Nat) : ∃ r, repN T E = fiL T E j ++ r := by
 have h := onceN_pre E ((metN T).take j) ((metN T).drop j)
 rw [List.take_append_drop, once_met hT hE hS] at h
 exact h
theorem naF_succ (hs : (metN T)[j]? = some s) (x : Nat) : naF T E (j + 1) x = if x = s then ((ixN E (repN T E) s : Nat) : Int) else naF T E j x := by
 unfold naF
 rw [List.take_add_one, hs]
 by_cases e : x = s
 ·subst e
  rw [if_pos rfl, if_pos]
  simp
 ·rw [if_neg e]
  have : (x ∈ (metN T).take j ++ (some s).toList) ↔ x ∈ (metN T).take j := by simp [e]
  by_cases q : x ∈ (metN T).take j
  ·rw [if_pos q, if_pos (this.2 q)]
  ·rw [if_neg q, if_neg (fun r => q (this.1 r))]
theorem naF_all (x : Nat) : naF T E (metN T).length x = nameN T E x := by
 unfold naF nameN
 rw [List.take_of_length_le (Nat.le_refl _)]
theorem naF_zero (n : Nat) : rowZ n (naF T E 0) = List.replicate n (-1) := by
 apply List.ext_getElem
 ·simp [rowZ]
 ·intro i h1 h2; simp [rowZ, naF]
theorem num_met (hT : RectN T k) (hE : EqvN E) (hS : StepN T k E) (hs : (metN T)[j]? = some s) : ixN E (addN E (fiL T E j) s) s = ixN E (repN T E) s := by
 obtain ⟨r, e⟩ := fiL_pre hT hE hS (j + 1)
 rw [e, fiL_succ hs]
 exact (ix_pre E _ r s (add_any hE _ s)).symm
end
def rowsN (T : List (List Nat)) (E : Nat -> Nat -> Bool) (l : List Nat) : List (List Int) := l.map fun s => (T.getD s []).map (nameN T E)
def xssN (rows : List (List Int)) : List (Nat × List Value) := rows.map fun r => (r.length, r.map (Value.int .i64))
theorem pcount_blk {w : World} {b c cs : Nat} {x0 x1 x2 x4 : Value} (h : Blk w b 87 #[x0, x1, x2, sl 0 c cs, x4] \/ ∃ gs, Blk w b 87 #[x0, x1, x2, sl gs c cs, x4]) :
  Calls Try.prog 53 #[.pointer (some ⟨b, 0, none⟩)] w fun e w' => e = .returned (.int .i64 (c : Int)) /\ w = w' := by
  obtain ⟨gs, h⟩ : ∃ gs, Blk w b 87 #[x0, x1, x2, sl gs c cs, x4] := h.elim (fun h => ⟨0, h⟩) id
  have b3 := h.cell 3
  simp only [List.getElem?_toArray, List.getElem?_cons_zero, List.getElem?_cons_succ] at b3
  clear h
  go_enter Try.func53, Try.ntmps53
  go_wp2_with fail
  go_ret
  exact ⟨rfl, rfl⟩
structure FwAt (w9 wr : World) (B p6 bo go3 gn n c : Nat) (f : Nat -> Nat) (T : List (List Nat)) (vf mv : Value) (j : Nat) : Prop where
 box : Blk wr p6 61 #[.slice none 0 0, vf, sl gn n n]
 fi : Own wr w9.heap.size vf (fiL T (EF f) j).length (intsN (fiL T (EF f) j))
 na : Own wr B (sl gn n n) n (rowZ n (naF T (EF f) j))
 ord : OrdAt wr B bo mv go3 c ((fiL T (EF f) j).map f)
 ap : Apart vf mv
 hmv : ∀ q, mv.ownBlock = some q -> w9.heap.size <= q
 hvf : ∀ q, vf.ownBlock = some q -> w9.heap.size <= q
 fr_ : Fr (fun q => q = p6 \/ q = gn \/ q = bo \/ q = go3) w9 wr
structure FwMd (w9 wr : World) (B p6 bo go3 gn n c : Nat) (f : Nat -> Nat) (T : List (List Nat)) (vf mv : Value) (j : Nat) : Prop where
 box : Blk wr p6 61 #[.slice none 0 0, vf, sl gn n n]
 fi : Own wr w9.heap.size vf (fiL T (EF f) j).length (intsN (fiL T (EF f) j))
 na : Own wr B (sl gn n n) n (rowZ n (naF T (EF f) (j + 1)))
 ord : OrdAt wr B bo mv go3 c ((fiL T (EF f) (j + 1)).map f)
 ap : Apart vf mv
 hmv : ∀ q, mv.ownBlock = some q -> w9.heap.size <= q
 hvf : ∀ q, vf.ownBlock = some q -> w9.heap.size <= q
 fr_ : Fr (fun q => q = p6 \/ q = gn \/ q = bo \/ q = go3) w9 wr
structure FwLo (w9 : World) (p6 bo go3 gn : Nat) : Prop where
 p : p6 < w9.heap.size
 b : bo < w9.heap.size
 g : go3 < w9.heap.size
 n : gn < w9.heap.size
 pb : ¬ p6 = bo
 pg : ¬ p6 = go3
 pn : ¬ p6 = gn
 nb : ¬ gn = bo
 ng : ¬ gn = go3
section
variable {w9 wr w' : World} {B p6 bo go3 gn n c j s k : Nat} {f : Nat -> Nat} {T : List (List Nat)} {vf mv mv' : Value}
theorem FwAt.num (h : FwAt w9 wr B p6 bo go3 gn n c f T vf mv j) (hl : FwLo w9 p6 bo go3 gn) (hT : RectN T k) (hS : StepN T k (EF f)) (hs : (metN T)[j]? = some s) (ho : OrdAt w' B bo mv' go3 c (metL ((fiL T (EF f) j).map f) (f s))) (hf : Fr (OrdX bo go3 mv) wr w')
  (hmv : mv'.ownBlock = mv.ownBlock \/ ∃ k, mv'.ownBlock = some k /\ wr.heap.size <= k) :
  FwMd w9 (w'.setCell ⟨gn, s, none⟩ (.int .i64 ((metL ((fiL T (EF f) j).map f) (f s)).idxOf (f s) : Nat))) B p6 bo go3 gn n c f T vf mv' j := by
  have hsz := h.fr_.size
  have e1 : ((metL ((fiL T (EF f) j).map f) (f s)).idxOf (f s) : Nat) = ixN (EF f) (repN T (EF f)) s := by
   rw [add_map, idx_map]; exact num_met hT (EF.eqv f) hS hs
  rw [e1]
  have nX : ∀ q, OrdX bo go3 mv q -> q = bo \/ q = go3 \/ w9.heap.size <= q := fun q hq => by
   rcases hq with e | e | e
   ·exact .inl e
   ·exact .inr (.inl e)
   ·exact .inr (.inr (h.hmv q e))
  have hl1 := hl.p; have hl2 := hl.n; have hl3 := hl.b; have hl4 := hl.g
  have hmv' : ∀ q, mv'.ownBlock = some q -> w9.heap.size <= q := fun q hq => by
   rcases hmv with r | ⟨k', r, r2⟩
   ·exact h.hmv q (by rw [<- r]; exact hq)
   ·rw [r] at hq; injection hq with hq; omega
  refine ⟨?_, ?_, ?_, ?_, ?_, hmv', h.hvf, ?_⟩
  ·exact (hf.blk h.box (fun hx => by rcases nX _ hx with e | e | e; exact hl.pb e; exact hl.pg e; omega)).far (p := ⟨gn, s, none⟩) hl.pn _
  ·refine own_set (hf.own h.fi (fun q hq hx => ?_)) (p := ⟨gn, s, none⟩) (fun e => by have q : w9.heap.size <= gn := h.hvf gn e; omega) _
   have hq9 := h.hvf q hq
   rcases hx with e | e | e
   ·omega
   ·omega
   ·rcases h.ap with r | r | r
    ·rw [r] at hq; cases hq
    ·rw [r] at e; cases e
    ·exact r (by rw [hq, e])
  ·have h1 := hf.own h.na (fun q hq hx => by
    have e0 : gn = q := by simpa [Value.ownBlock] using hq
    subst e0
    rcases nX _ hx with e | e | e
    ·exact hl.nb e
    ·exact hl.ng e
    ·omega)
   have h2 := (h1.stored s ((ixN (EF f) (repN T (EF f)) s : Nat) : Int)).1
   rw [rowZ_set] at h2
   have e : (fun q => if q = s then ((ixN (EF f) (repN T (EF f)) s : Nat) : Int) else naF T (EF f) j q) = naF T (EF f) (j + 1) := by
    funext q; rw [naF_succ hs q]
   rw [e] at h2
   exact h2
  ·rw [fiL_succ hs, <- add_map]
   have hXn : ∀ q, OrdX bo go3 mv' q -> q ≠ gn := fun q hq e => by
    subst e
    rcases hq with e | e | e
    ·exact hl.nb e
    ·exact hl.ng e
    ·have := hmv' _ e; omega
   exact ho.keep (Fr.set_ (X := fun q => q = gn) (Fr.refl _ w') (p := ⟨gn, s, none⟩) (.inl rfl) _) (fun e => hXn bo (.inl rfl) e) (fun e => hXn go3 (.inr (.inl rfl)) e) (fun q hq e => hXn q (.inr (.inr hq)) e)
  ·rcases hmv with r | ⟨k', r, r2⟩
   ·rcases h.ap with q | q | q
    ·exact .inl q
    ·exact .inr (.inl (r.trans q))
    ·exact .inr (.inr (fun e => q (e.trans r)))
   ·cases hv : vf.ownBlock with
    | none => exact .inl hv
    | some q =>
      refine .inr (.inr (fun e => ?_))
      rw [hv, r] at e
      injection e with e
      have := (h.fi.lt q hv).2
      omega
  ·exact (h.fr_.then_ hf (fun q hq hx => by
    rcases nX q hx with e | e | e
    ·exact .inr (.inr (.inl e))
    ·exact .inr (.inr (.inr e))
    ·omega)).set_ (p := ⟨gn, s, none⟩) (.inl (.inr (.inl rfl))) _
theorem FwMd.bel (h : FwMd w9 wr B p6 bo go3 gn n c f T vf mv j) (hb : Fr (fun _ => False) wr w') : FwMd w9 w' B p6 bo go3 gn n c f T vf mv j :=
 ⟨hb.blk h.box id, hb.own h.fi (fun _ _ => id), hb.own h.na (fun _ _ => id), h.ord.keep hb id id (fun _ _ => id), h.ap, h.hmv, h.hvf, h.fr_.then_ hb (fun _ _ e => e.elim)⟩
theorem FwMd.old (h : FwMd w9 wr B p6 bo go3 gn n c f T vf mv j) (he : fiL T (EF f) (j + 1) = fiL T (EF f) j) : FwAt w9 wr B p6 bo go3 gn n c f T vf mv (j + 1) :=
 ⟨h.box, by rw [he]; exact h.fi, h.na, h.ord, h.ap, h.hmv, h.hvf, h.fr_⟩
theorem FwMd.new_ (h : FwMd w9 wr B p6 bo go3 gn n c f T vf mv j) (hl : FwLo w9 p6 bo go3 gn) (he : fiL T (EF f) (j + 1) = fiL T (EF f) j ++ [s]) {g9 cap9 m : Nat} (hm : (fiL T (EF f) j).length = m) (hp : Pushed w9.heap.size wr w' vf g9 cap9 m (intsN (fiL T (EF f) j)) (s : Int)) :
  FwAt w9 (w'.setCell ⟨p6, 1, none⟩ (sl g9 (m + 1) cap9)) B p6 bo go3 gn n c f T (sl g9 (m + 1) cap9) mv (j + 1) := by
  have hsz := h.fr_.size
  have hl1 := hl.p; have hl2 := hl.n; have hl3 := hl.b; have hl4 := hl.g
  have hfr : Fr (fun q => vf.ownBlock = some q) wr w' := (((Fr.refl _ wr).alloc (.cells #[.int .i64 (s : Int)] 3)).then_ (Fr.of_grown hp.grow (fun q hq => hq)) (fun q _ e => e))
  have hg9 : w9.heap.size <= g9 := by
   rcases hp.at_ with e | e
   ·exact h.hvf g9 e
   ·omega
  have hvm : ∀ q, mv.ownBlock = some q -> ¬ vf.ownBlock = some q := fun q hq e => by
   rcases h.ap with r | r | r
   ·rw [r] at e; cases e
   ·rw [r] at hq; cases hq
   ·exact r (by rw [hq, e])
  have nv : ∀ q, q < w9.heap.size -> ¬ vf.ownBlock = some q := fun q hq e => by have := h.hvf q e; omega
  refine ⟨?_, ?_, ?_, ?_, ?_, h.hmv, ?_, ?_⟩
  ·have := (hfr.blk h.box (nv p6 hl1)).set_ 1 (sl g9 (m + 1) cap9)
   simpa using this
  ·have e2 : intsN (fiL T (EF f) j) ++ [(s : Int)] = intsN (fiL T (EF f) j ++ [s]) := by simp [intsN]
   have h1 := hp.own
   rw [e2] at h1
   rw [he, List.length_append, List.length_singleton, hm]
   exact own_set h1 (p := ⟨p6, 1, none⟩) (fun e => by
    have : g9 = p6 := by simpa [Value.ownBlock] using e
    omega) _
  ·exact own_set (hfr.own h.na (fun q hq hx => nv gn hl2 (by
    have : gn = q := by simpa [Value.ownBlock] using hq
    rw [this]; exact hx))) (p := ⟨p6, 1, none⟩) (fun e => hl.pn (by simpa [Value.ownBlock] using e.symm)) _
  ·have h1 := h.ord.keep hfr (nv bo hl3) (nv go3 hl4) hvm
   exact h1.keep (Fr.set_ (X := fun q => q = p6) (Fr.refl _ w') (p := ⟨p6, 1, none⟩) (.inl rfl) _) (fun e => hl.pb e.symm) (fun e => hl.pg e.symm) (fun q hq e => by have := h.hmv q hq; omega)
  ·rcases hp.at_ with e | e
   ·rcases h.ap with r | r | r
    ·rw [r] at e; cases e
    ·exact .inr (.inl r)
    ·exact .inr (.inr (fun q => r (by rw [e]; exact q)))
   ·cases hv : mv.ownBlock with
    | none => exact .inr (.inl hv)
    | some q =>
      refine .inr (.inr (fun r => ?_))
      rw [hv] at r
      have r2 : g9 = q := by simpa [Value.ownBlock] using r
      have := (h.ord.met.lt q hv).2
      omega
  ·intro q hq
   have : g9 = q := by simpa [Value.ownBlock] using hq
   omega
  ·exact (h.fr_.then_ hfr (fun q hq hx => absurd hx (nv q hq))).set_ (p := ⟨p6, 1, none⟩) (.inl (.inl rfl)) _
end
theorem OrdAt.drewO {w : World} {B b gn n : Nat} {mv : Value} {M : List Nat} (h : OrdAt w B b mv gn n M) : OrdAt w.drew B b mv gn n M := h.keep ((Fr.refl (fun _ => False) w).drew) id id (fun _ _ => id)
theorem fiL_len (T : List (List Nat)) (E : Nat -> Nat -> Bool) (j : Nat) : (fiL T E j).length <= (metN T).length := by
 have key : ∀ m : List Nat, (onceN E m).length <= m.length := by
  intro m
  induction m using snocN with
  | h0 => simp [onceN]
  | h1 m x ih =>
    rw [onceN_snoc]
    unfold addN
    split
    ·simp; omega
    ·simp; omega
 exact Nat.le_trans (key _) (by simp; omega)
theorem info_row : (Try.prog.info? 22).map (fun i => (i.zero, i.size, i.bytes)) = some (some (.slice none 0 0), 1, 24) := by kernel_rfl
section
variable {w w' : World} {B k : Nat} {e e' : TypeId} {v : Value} {xss : List (Nat × List Value)}
theorem OwnLL.fr {X : Nat -> Prop} (h : OwnLL w B e e' 1 v k xss) (hf : Fr X w w') (hX : ∀ q, B <= q -> ¬ X q) : OwnLL w' B e e' 1 v k xss := by
 have key : ∀ {e : TypeId} {u : Value} {n : Nat} {xs : List Value}, w.ownsRow B e 1 u n xs -> w'.ownsRow B e 1 u n xs := fun {e u n xs} ho => by
  have hlt := ho.lt
  obtain ⟨h1, h2⟩ := ho
  refine ⟨h1, ?_⟩
  rcases h2 with h2 | ⟨g, cap, cur, rfl, hg, hh, r⟩
  ·exact .inl h2
  ·exact .inr ⟨g, cap, cur, rfl, hg, by rw [hf.block g (hlt g rfl).2 (hX g hg)]; exact hh, r⟩
 obtain ⟨h1, vals, h2, h3⟩ := h
 exact ⟨h1, vals, key h2, fun i hi => ⟨key (h3 i hi).1, (h3 i hi).2⟩⟩
theorem ownsRow_more {e : TypeId} {u : Value} {n B' : Nat} {xs : List Value} (h : w.ownsRow B e 1 u n xs) (hB : B' <= B) : w.ownsRow B' e 1 u n xs := by
 obtain ⟨h1, h2⟩ := h
 refine ⟨h1, ?_⟩
 rcases h2 with h2 | ⟨g, cap, cur, rfl, hg, r⟩
 ·exact .inl h2
 ·exact .inr ⟨g, cap, cur, rfl, by omega, r⟩
theorem OwnLL.more (h : OwnLL w B e e' 1 v k xss) {B' : Nat} (hB : B' <= B) : OwnLL w B' e e' 1 v k xss := by
 obtain ⟨h1, vals, h2, h3⟩ := h
 exact ⟨h1, vals, ownsRow_more h2 hB, fun i hi => ⟨ownsRow_more (h3 i hi).1 hB, (h3 i hi).2⟩⟩
theorem OwnLL.formS (h : OwnLL w B e e' 1 v k xss) : ∃ A n c, v = .slice A n c := by
 rcases h.form with ⟨e, _⟩ | ⟨g, cap, e, _⟩
 ·exact ⟨_, _, _, e⟩
 ·exact ⟨_, _, _, e⟩
theorem OwnLL.pushK (h : OwnLL w B e e' 1 v k xss) : ∃ vals, w.ownsRow B e 1 v k vals /\ ∀ (V V' : World) (g cap : Nat) (u : Value) (n : Nat) (xs : List Value), Below w.heap.size w V -> V'.ownsRow B e 1 (sl g (k + 1) cap) (k + 1) (vals ++ [u]) -> V.grownBy V' v.ownBlock ->
  (v.ownBlock = some g \/ g = V.heap.size) -> V.ownsRow B e' 1 u n xs -> Apart v u -> OwnLL V' B e e' 1 (sl g (k + 1) cap) (k + 1) (xss ++ [(n, xs)]) := by
  obtain ⟨h1, vals, h2, h3⟩ := h
  refine ⟨vals, h2, fun V V' g cap u n xs hb ho hg hat hu hap => ⟨by simp [h1], vals ++ [u], ho, fun i hi => ?_⟩⟩
  have hl : vals.length = k := by have := h2.1; omega
  rcases Nat.lt_or_ge i k with g1 | g1
  ·have e1 : (vals ++ [u]).getD i undef = vals.getD i undef := by simp [List.getD, List.getElem?_append_left (show i < vals.length by omega)]
   have e2 : (xss ++ [(n, xs)]).getD i (0, []) = xss.getD i (0, []) := by simp [List.getD, List.getElem?_append_left (show i < xss.length by omega)]
   rw [e1, e2]
   exact apart_lies (h3 i g1).2 (ownsRow_bel (h3 i g1).1 hb) hg hat rfl
  ·have hik : i = k := by omega
   subst hik
   have e1 : (vals ++ [u]).getD i undef = u := by simp [List.getD, <- hl]
   have e2 : (xss ++ [(n, xs)]).getD i (0, []) = (n, xs) := by simp [List.getD, <- h1]
   rw [e1, e2]
   exact apart_lies hap hu hg hat rfl
end
structure PF where
 p5 : Nat
 p6 : Nat
 ga : Nat
 ca : Nat
 gp : Nat
 cp : Nat
 go : Nat
 co : Nat
 gs : Nat
 cs : Nat
 TA : Option Addr
 tn : Nat
 tc : Nat
 c : Nat
 f : Nat -> Nat
 gn : Nat
theorem fewest_any {α : Type} {g : Nat -> α} {w : World} {NA GA : Option Addr} {nc gc n k m : Nat} {T Gs : List (List Nat)} (h : NextR w (.slice NA n nc) T) (hl : T.length = n) (hT : RectN T k) (hn : n <= 1000) (hk : k <= 1000)
  (hg : NextR w (.slice GA m gc) Gs) (hgl : Gs.length = m) (hm : m <= 1000) (hgn : ∀ i, i < m -> (Gs.getD i []).Nodup /\ ∀ x ∈ Gs.getD i [], x < n) (hgo : GroupsOf n g Gs) :
  Calls Try.prog 31 #[.agg #[.slice NA n nc], .slice GA m gc] w fun e w' => ∃ vn vf gn f, e = .returned (.agg #[vn, vf, sl gn n n]) /\ (∀ x y, x < n -> y < n -> (f x = f y ↔ AlikeN T k g x y)) /\
   OwnLL w' w.heap.size 22 3 1 vn (repN T (EF f)).length (xssN (rowsN T (EF f) (repN T (EF f)))) /\ Own w' w.heap.size vf (repN T (EF f)).length (intsN (repN T (EF f))) /\ Own w' w.heap.size (sl gn n n) n (rowZ n (nameN T (EF f))) /\ Below w.heap.size w w' := by
  have hpos : 0 < n := by have := hT.pos; omega
  obtain ⟨W0, hW0⟩ : ∃ W0, (w.alloc (.cells #[.slice NA n nc] 57)).alloc (.cells #[.slice none 0 0, .slice none 0 0, .slice none 0 0] 61) = W0 := ⟨_, rfl⟩
  have hb0 : Below w.heap.size w W0 := by rw [<- hW0]; exact ((Below.refl _ _).alloc (Nat.le_refl _) _).alloc (by simp) _
  have hx0 : Blk W0 w.heap.size 57 #[.slice NA n nc] := by rw [<- hW0]; exact (Blk.new _ _ _).alloc _
  have hx1 : Blk W0 (w.heap.size + 1) 61 #[.slice none 0 0, .slice none 0 0, .slice none 0 0] := by
   rw [<- hW0]
   have := Blk.new (w.alloc (.cells #[.slice NA n nc] 57)) 61 #[.slice none 0 0, .slice none 0 0, .slice none 0 0]
   rwa [World.size_alloc] at this
  have hz0 : W0.heap.size = w.heap.size + 2 := by rw [<- hW0]; simp
  obtain ⟨nb, hnb⟩ : ∃ nb, nb = w.heap.size := ⟨_, rfl⟩
  rw [<- hnb] at hx0 hx1
  have HNR := Lib.hid (h.below hb0); have HGR := Lib.hid (hg.below hb0); have HT := Lib.hid hT; have HX0 := Lib.hid hx0; have HX1 := Lib.hid hx1; have HB0 := Lib.hid hb0; have HW0 := Lib.hid hW0; have HZ0 := Lib.hid hz0; have HNB := Lib.hid hnb
  have HGN := Lib.hid hgn; have HGO := Lib.hid hgo; have HL := Lib.hid hl; have HGL := Lib.hid hgl
  have HKS : Hid (∀ W : World, Below W0.heap.size W0 W -> (fun w' : World => w'.cell? ⟨nb, 0, none⟩ = some (.slice NA n nc)) W) := Lib.hid (fun W hW => by
   have h0 := (Blk.below hx0 hW hx0.lt).cell 0
   simpa using h0)
  have hnb2 : nb < W0.heap.size := hx0.lt
  clear h hg hT hx0 hx1 hb0 hW0 hz0 hgn hgo hl hgl
  go_enter Try.func31, Try.ntmps31
  go_wp2_with fail
  rw [HW0.out]
  rw [<- hnb]
  clear hnb
  refine region_xr (π := PF) 10 (fun w' : World => w'.cell? ⟨nb, 0, none⟩ = some (.slice NA n nc)) (fun (p : PF) (a : Act) => (((((((((a.put (some 12) (.agg #[.slice NA n nc])).put (some 13) (.slice GA m gc)).put (some 14) (.agg #[sl p.ga n p.ca, sl p.gp n p.cp, sl p.go n p.co, sl p.gs p.c p.cs, .slice p.TA p.tn p.tc])).put (some 15) (.agg #[.slice NA n nc])).put (some 16) (.int .i64 (n : Int))).put (some 17) (sl p.gn n n)).put (some 18) (.agg #[.slice none 0 0, .slice none 0 0, sl p.gn n n])).put (some 5) (.pointer (some ⟨p.p5, 0, none⟩))).put (some 6) (.pointer (some ⟨p.p6, 0, none⟩)))) (fun (p : PF) (a : Act) => (((((((((a.put (some 12) (.agg #[.slice NA n nc])).put (some 13) (.slice GA m gc)).put (some 14) (.agg #[sl p.ga n p.ca, sl p.gp n p.cp, sl p.go n p.co, sl p.gs p.c p.cs, .slice p.TA p.tn p.tc])).put (some 15) (.agg #[.slice NA n nc])).put (some 16) (.int .i64 (n : Int))).put (some 17) (sl p.gn n n)).put (some 18) (.agg #[.slice none 0 0, .slice none 0 0, sl p.gn n n])).put (some 5) (.pointer (some ⟨p.p5, 0, none⟩))).put (some 6) (.pointer (some ⟨p.p6, 0, none⟩)))) (fun (p : PF) (W : World) => (Below W0.heap.size W0 W /\ Own W W0.heap.size (sl p.go n p.co) n (rowN n p.f) /\ Own W W0.heap.size (sl p.gn n n) n (List.replicate n (-1)) /\ p.go ≠ p.gn /\ (∀ x y, x < n -> y < n -> (p.f x = p.f y ↔ AlikeN T k g x y)) /\ Parted n p.f p.c /\ W0.heap.size <= p.p5 /\ W0.heap.size <= p.p6) /\ Blk W p.p5 87 #[sl p.ga n p.ca, sl p.gp n p.cp, sl p.go n p.co, sl p.gs p.c p.cs, .slice p.TA p.tn p.tc] /\ Blk W p.p6 61 #[.slice none 0 0, .slice none 0 0, sl p.gn n n]) (fun (p : PF) (W : World) => (Below W0.heap.size W0 W /\ Own W W0.heap.size (sl p.go n p.co) n (rowN n p.f) /\ Own W W0.heap.size (sl p.gn n n) n (List.replicate n (-1)) /\ p.go ≠ p.gn /\ (∀ x y, x < n -> y < n -> (p.f x = p.f y ↔ AlikeN T k g x y)) /\ Parted n p.f p.c /\ W0.heap.size <= p.p5 /\ W0.heap.size <= p.p6) /\ Blk W p.p5 87 #[.slice none 0 0, .slice none 0 0, .slice none 0 0, .slice none 0 0, .slice none 0 0] /\ Blk W p.p6 61 #[.slice none 0 0, .slice none 0 0, .slice none 0 0] /\ (W.cell? ⟨nb, 0, none⟩ = some (.slice NA n nc))) 2 #[true, true, true, true, true, true, true, true, true, false, false] (by kernel_rfl) ?_ ?_ ?_
  ·clear HKS
   rintro ⟨p5, p6, ga, ca, gp, cp, go, co, gs, cs, TA, tn, tc, c, f, gn⟩ W ⟨⟨h1, h2, h3, h4, h5, h6, h7, h8⟩, h9, h10, h11⟩
   dsimp only at h1 h2 h3 h4 h5 h6 h7 h8 h9 h10 ⊢
   try simp only [Act.put, zq1, zq2, zq3, zq4, zq5, zq6]
   have h56 : ¬ p5 = p6 := blk_ne2 h9 h10 (by decide)
   have h65 : ¬ p6 = p5 := fun e => h56 e.symm
   have r0 := Blk.cell h9 0; have f0 := Blk.frozen h9 0
   have r1 := Blk.cell h9 1; have f1 := Blk.frozen h9 1
   have r2 := Blk.cell h9 2; have f2 := Blk.frozen h9 2
   have r3 := Blk.cell h9 3; have f3 := Blk.frozen h9 3
   have r4 := Blk.cell h9 4; have f4 := Blk.frozen h9 4
   simp only [List.getElem?_toArray, List.getElem?_cons_zero, List.getElem?_cons_succ] at r0 r1 r2 r3 r4
   have H1 := Lib.hid h1
   have H2 := Lib.hid h2
   have H3 := Lib.hid h3
   have H4 := Lib.hid h4
   have H5 := Lib.hid h5
   have H6 := Lib.hid h6
   have H7 := Lib.hid h7
   have H8 := Lib.hid h8
   have H9 := Lib.hid h9
   have H10 := Lib.hid h10
   have H11 := Lib.hid h11
   clear h1 h2 h3 h4 h5 h6 h7 h8 h9 h10 h11
   have hpn : ¬ nb = p5 := by have := H7.out; omega
   refine anyX_g (i := 9) (by kernel_rfl) (by decide) rfl (by rfl) ?_
   intro K hK
   try simp only [zq1, zq2, zq3]
   go_simp
   obtain ⟨Wm, hWm⟩ : ∃ Wm, (((((W).setCell ⟨p5, 0, none⟩ (sl ga n ca)).setCell ⟨p5, 1, none⟩ (sl gp n cp)).setCell ⟨p5, 2, none⟩ (sl go n co)).setCell ⟨p5, 3, none⟩ (sl gs c cs)).setCell ⟨p5, 4, none⟩ (.slice TA tn tc) = Wm := ⟨_, rfl⟩
   rw [hWm]
   have hfrm : Fr (fun q => q = p5) W Wm := by
    rw [<- hWm]
    exact ((((((Fr.refl (fun q => q = p5) W).set_ (p := ⟨p5, 0, none⟩) (.inl rfl) _).set_ (p := ⟨p5, 1, none⟩) (.inl rfl) _).set_ (p := ⟨p5, 2, none⟩) (.inl rfl) _).set_ (p := ⟨p5, 3, none⟩) (.inl rfl) _).set_ (p := ⟨p5, 4, none⟩) (.inl rfl) _)
   have hp6 : Blk Wm p6 61 #[.slice none 0 0, .slice none 0 0, .slice none 0 0] := hfrm.blk H10.out h65
   have hp5 : Blk Wm p5 87 #[sl ga n ca, sl gp n cp, sl go n co, sl gs c cs, .slice TA tn tc] := by
    rw [<- hWm]
    have := (((((H9.out.set_ 0 (sl ga n ca)).set_ 1 (sl gp n cp)).set_ 2 (sl go n co)).set_ 3 (sl gs c cs)).set_ 4 (.slice TA tn tc))
    simpa using this
   have hS9 := hfrm.cell H11.out hpn
   clear hWm r0 r1 r2 r3 r4 f0 f1 f2 f3 f4
   refine hK _ _ hS9 ?_
   clear hK
   try simp only [Act.put, zq1, zq2, zq3, zq4, zq5, zq6]
   have HP5 := Lib.hid hp5; have HP6 := Lib.hid hp6; have HFM := Lib.hid hfrm
   have q0 := Blk.cell hp6 0; have e0 := Blk.frozen hp6 0
   have q1 := Blk.cell hp6 1; have e1 := Blk.frozen hp6 1
   have q2 := Blk.cell hp6 2; have e2 := Blk.frozen hp6 2
   simp only [List.getElem?_toArray, List.getElem?_cons_zero, List.getElem?_cons_succ] at q0 q1 q2
   clear hp5 hp6 hfrm hS9
   refine anyX_last (by kernel_rfl) (by kernel_rfl) rfl rfl ?_
   try simp only [zq1, zq2, zq3]
   go_simp
   refine .inl ⟨⟨p5, p6, ga, ca, gp, cp, go, co, gs, cs, TA, tn, tc, c, f, gn⟩, rfl, ?_, ?_⟩
   ·dsimp only
    simp only [Act.put, zq1, zq2, zq3, zq4, zq5, zq6]
   have hfr : Fr (fun q => q = p5 \/ q = p6) W ((((Wm).setCell ⟨p6, 0, none⟩ (.slice none 0 0)).setCell ⟨p6, 1, none⟩ (.slice none 0 0)).setCell ⟨p6, 2, none⟩ (sl gn n n)) := ((((HFM.out.mono (fun q _ e => Or.inl e) : Fr (fun q => q = p5 \/ q = p6) W Wm).set_ (p := ⟨p6, 0, none⟩) (.inl (.inr rfl)) _).set_ (p := ⟨p6, 1, none⟩) (.inl (.inr rfl)) _).set_ (p := ⟨p6, 2, none⟩) (.inl (.inr rfl)) _)
   have kI : ∀ {g c m : Nat} {l : List Int}, Own W W0.heap.size (sl g m c) m l -> Own ((((Wm).setCell ⟨p6, 0, none⟩ (.slice none 0 0)).setCell ⟨p6, 1, none⟩ (.slice none 0 0)).setCell ⟨p6, 2, none⟩ (sl gn n n)) W0.heap.size (sl g m c) m l := fun {g c m l} ho => hfr.own ho (fun q hq e => by
     rcases e with e | e
     ·subst e; exact blk_ne H9.out ho (by decide) hq
     ·subst e; exact blk_ne H10.out ho (by decide) hq)
   refine ⟨⟨H1.out.trans (hfr.below H1.out.size (fun q hq e => by have := H7.out; have := H8.out; omega)), kI H2.out, kI H3.out, H4.out, H5.out, H6.out, H7.out, H8.out⟩, ?_, ?_⟩
   ·exact (Blk.far (Blk.far (Blk.far HP5.out (p := ⟨p6, 0, none⟩) h56 _) (p := ⟨p6, 1, none⟩) h56 _) (p := ⟨p6, 2, none⟩) h56 _)
   ·have := (((HP6.out.set_ 0 (.slice none 0 0)).set_ 1 (.slice none 0 0)).set_ 2 (sl gn n n))
    simpa using this
  ·intro HLF
   have hb : Below W0.heap.size W0 W0.drew := (Below.refl _ _).drew
   have hS := HKS.out _ hb
   generalize W0.drew = V0 at *
   refine tkx (i := 0) (v := ?_) hS ?_ ?_ (hQ := by exact ends_panic _ _ (fun _ _ _ h => h))
   rotate_left
   ·rintro w' s0
    go_simp
    try with_reducible rfl
   try simp only [Act.put, zq1, zq2, zq3, zq4, zq5, zq6]
   refine tkx (i := 1) (v := ?_) hS ?_ ?_ (hQ := by exact ends_panic _ _ (fun _ _ _ h => h))
   rotate_left
   ·rintro w' s0
    go_simp
    try with_reducible rfl
   try simp only [Act.put, zq1, zq2, zq3, zq4, zq5, zq6]
   refine tkx (i := 3) (v := ?_) hS ?_ ?_ (hQ := by exact ends_panic _ _ (fun _ _ _ h => h))
   rotate_left
   ·rintro w' s0
    go_simp
    try with_reducible rfl
   try simp only [Act.put, zq1, zq2, zq3, zq4, zq5, zq6]
   refine anyX_3 (i := 2) (j := 7) (l := 8) (by kernel_rfl) (by decide) (by decide) (by decide) rfl rfl rfl rfl rfl rfl ?_ ?_ ?_
   ·intro K hK
    try simp only [zq1, zq2, zq3]
    refine wp_enterE #[.agg #[.slice NA n nc], .slice GA m gc] Try.func50 (by kernel_rfl) (by kernel_rfl) ?_ (alike_any (g := g) (HNR.out.below hb) HL.out HT.out hn hk (HGR.out.below hb) HGL.out hm HGN.out HGO.out) ?_
    ·go_simp
    rintro e V1 ⟨ga, ca, gp, cp, go, co, gs, cs, TA, tn, tc, c, f, rfl, ho, hff, hpd, hbn⟩
    refine ⟨_, rfl, ?_⟩
    replace ho := ho.more hb.size
    replace hb := hb.trans (hbn.mono hb.size)
    clear hbn
    have hS := HKS.out _ hb
    refine hK _ _ hS ?_
    clear hK
    try simp only [Act.put, zq1, zq2, zq3, zq4, zq5, zq6]
    refine anyX_3 (i := 4) (j := 7) (l := 8) (by kernel_rfl) (by decide) (by decide) (by decide) rfl rfl rfl rfl rfl rfl ?_ ?_ ?_
    ·intro K hK
     try simp only [zq1, zq2, zq3]
     refine wp_enterE #[.agg #[.slice NA n nc]] Try.func48 (by kernel_rfl) (by kernel_rfl) ?_ (size_any NA n nc V1) ?_
     ·go_simp
     rintro e V2 ⟨rfl, hbn⟩
     refine ⟨_, rfl, ?_⟩
     replace ho := ho.below_top hbn
     replace hb := hb.trans (hbn.mono hb.size)
     clear hbn
     have hS := HKS.out _ hb
     refine hK _ _ hS ?_
     clear hK
     try simp only [Act.put, zq1, zq2, zq3, zq4, zq5, zq6]
     refine anyX_3 (i := 5) (j := 7) (l := 8) (by kernel_rfl) (by decide) (by decide) (by decide) rfl rfl rfl rfl rfl rfl ?_ ?_ ?_
     ·intro K hK
      try simp only [zq1, zq2, zq3]
      refine wp_enterE #[.int .i64 (n : Int)] Try.func51 (by kernel_rfl) (by kernel_rfl) ?_ (noneOf_any n hn V2) ?_
      ·go_simp
      rintro e V3 ⟨gn, rfl, hgn2, ho2, hbn⟩
      refine ⟨_, rfl, ?_⟩
      replace ho2 := ho2.more hb.size
      have hne : go ≠ gn := by have q := (ho.lt go rfl).2; intro e; subst e; omega
      clear hgn2
      replace ho := ho.below_top hbn
      replace hb := hb.trans (hbn.mono hb.size)
      clear hbn
      have hS := HKS.out _ hb
      refine hK _ _ hS ?_
      clear hK
      try simp only [Act.put, zq1, zq2, zq3, zq4, zq5, zq6]
      refine tkx (i := 6) (v := ?_) hS ?_ ?_ (hQ := by exact ends_panic _ _ (fun _ _ _ h => h))
      rotate_left
      ·rintro w' _
       go_simp
       try with_reducible rfl
      try simp only [Act.put, zq1, zq2, zq3, zq4, zq5, zq6]
      refine anyX_2 (i := 7) (j := 8) (by kernel_rfl) (by decide) (by decide) rfl rfl rfl rfl ?_ ?_
      ·intro K hK
       try simp only [zq1, zq2, zq3]
       go_simp
       obtain ⟨V4, eV⟩ : ∃ W', V3.alloc (.cells #[.slice none 0 0, .slice none 0 0, .slice none 0 0, .slice none 0 0, .slice none 0 0] 87) = W' := ⟨_, rfl⟩
       have hbn : Below V3.heap.size V3 V4 := by rw [<- eV]; exact (Below.refl _ _).alloc (Nat.le_refl _) _
       have xp5 : Blk V4 V3.heap.size 87 #[.slice none 0 0, .slice none 0 0, .slice none 0 0, .slice none 0 0, .slice none 0 0] := by rw [<- eV]; exact Blk.new _ _ _
       have hlep5 := hb.size
       rw [eV]
       clear eV
       replace ho := ho.below_top hbn
       replace ho2 := ho2.below_top hbn
       replace hb := hb.trans (hbn.mono hb.size)
       clear hbn
       obtain ⟨p5, hp⟩ : ∃ p, p = V3.heap.size := ⟨_, rfl⟩
       rw [<- hp] at xp5 hlep5 ⊢
       clear hp
       have hS := HKS.out _ hb
       refine hK _ _ hS ?_
       clear hK
       try simp only [Act.put, zq1, zq2, zq3, zq4, zq5, zq6]
       refine anyX_g (i := 8) (by kernel_rfl) (by decide) rfl (by rfl) ?_
       intro K hK
       try simp only [zq1, zq2, zq3]
       go_simp
       obtain ⟨V5, eV⟩ : ∃ W', V4.alloc (.cells #[.slice none 0 0, .slice none 0 0, .slice none 0 0] 61) = W' := ⟨_, rfl⟩
       have hbn : Below V4.heap.size V4 V5 := by rw [<- eV]; exact (Below.refl _ _).alloc (Nat.le_refl _) _
       have xp6 : Blk V5 V4.heap.size 61 #[.slice none 0 0, .slice none 0 0, .slice none 0 0] := by rw [<- eV]; exact Blk.new _ _ _
       have hlep6 := hb.size
       rw [eV]
       clear eV
       replace ho := ho.below_top hbn
       replace ho2 := ho2.below_top hbn
       replace xp5 := Blk.below xp5 hbn xp5.lt
       replace hb := hb.trans (hbn.mono hb.size)
       clear hbn
       obtain ⟨p6, hp⟩ : ∃ p, p = V4.heap.size := ⟨_, rfl⟩
       rw [<- hp] at xp6 hlep6 ⊢
       clear hp
       have hS := HKS.out _ hb
       refine hK _ _ hS ?_
       clear hK
       try simp only [Act.put, zq1, zq2, zq3, zq4, zq5, zq6]
       have hlf := HLF ⟨p5, p6, ga, ca, gp, cp, go, co, gs, cs, TA, tn, tc, c, f, gn⟩ _ ⟨⟨hb, ho, ho2, hne, hff, hpd, hlep5, hlep6⟩, xp5, xp6, hS⟩
       dsimp only at hlf
       simp only [Act.put, zq1, zq2, zq3, zq4, zq5, zq6] at hlf
       exact hlf
      ·intro K hK
       try simp only [zq1, zq2, zq3]
       go_simp
       obtain ⟨V4, eV⟩ : ∃ W', V3.alloc (.cells #[.slice none 0 0, .slice none 0 0, .slice none 0 0] 61) = W' := ⟨_, rfl⟩
       have hbn : Below V3.heap.size V3 V4 := by rw [<- eV]; exact (Below.refl _ _).alloc (Nat.le_refl _) _
       have xp6 : Blk V4 V3.heap.size 61 #[.slice none 0 0, .slice none 0 0, .slice none 0 0] := by rw [<- eV]; exact Blk.new _ _ _
       have hlep6 := hb.size
       rw [eV]
       clear eV
       replace ho := ho.below_top hbn
       replace ho2 := ho2.below_top hbn
       replace hb := hb.trans (hbn.mono hb.size)
       clear hbn
       obtain ⟨p6, hp⟩ : ∃ p, p = V3.heap.size := ⟨_, rfl⟩
       rw [<- hp] at xp6 hlep6 ⊢
       clear hp
       have hS := HKS.out _ hb
       refine hK _ _ hS ?_
       clear hK
       try simp only [Act.put, zq1, zq2, zq3, zq4, zq5, zq6]
       refine anyX_g (i := 7) (by kernel_rfl) (by decide) rfl (by rfl) ?_
       intro K hK
       try simp only [zq1, zq2, zq3]
       go_simp
       obtain ⟨V5, eV⟩ : ∃ W', V4.alloc (.cells #[.slice none 0 0, .slice none 0 0, .slice none 0 0, .slice none 0 0, .slice none 0 0] 87) = W' := ⟨_, rfl⟩
       have hbn : Below V4.heap.size V4 V5 := by rw [<- eV]; exact (Below.refl _ _).alloc (Nat.le_refl _) _
       have xp5 : Blk V5 V4.heap.size 87 #[.slice none 0 0, .slice none 0 0, .slice none 0 0, .slice none 0 0, .slice none 0 0] := by rw [<- eV]; exact Blk.new _ _ _
       have hlep5 := hb.size
       rw [eV]
       clear eV
       replace ho := ho.below_top hbn
       replace ho2 := ho2.below_top hbn
       replace xp6 := Blk.below xp6 hbn xp6.lt
       replace hb := hb.trans (hbn.mono hb.size)
       clear hbn
       obtain ⟨p5, hp⟩ : ∃ p, p = V4.heap.size := ⟨_, rfl⟩
       rw [<- hp] at xp5 hlep5 ⊢
       clear hp
       have hS := HKS.out _ hb
       refine hK _ _ hS ?_
       clear hK
       try simp only [Act.put, zq1, zq2, zq3, zq4, zq5, zq6]
       have hlf := HLF ⟨p5, p6, ga, ca, gp, cp, go, co, gs, cs, TA, tn, tc, c, f, gn⟩ _ ⟨⟨hb, ho, ho2, hne, hff, hpd, hlep5, hlep6⟩, xp5, xp6, hS⟩
       dsimp only at hlf
       simp only [Act.put, zq1, zq2, zq3, zq4, zq5, zq6] at hlf
       exact hlf
     ·intro K hK
      try simp only [zq1, zq2, zq3]
      go_simp
      obtain ⟨V3, eV⟩ : ∃ W', V2.alloc (.cells #[.slice none 0 0, .slice none 0 0, .slice none 0 0, .slice none 0 0, .slice none 0 0] 87) = W' := ⟨_, rfl⟩
      have hbn : Below V2.heap.size V2 V3 := by rw [<- eV]; exact (Below.refl _ _).alloc (Nat.le_refl _) _
      have xp5 : Blk V3 V2.heap.size 87 #[.slice none 0 0, .slice none 0 0, .slice none 0 0, .slice none 0 0, .slice none 0 0] := by rw [<- eV]; exact Blk.new _ _ _
      have hlep5 := hb.size
      rw [eV]
      clear eV
      replace ho := ho.below_top hbn
      replace hb := hb.trans (hbn.mono hb.size)
      clear hbn
      obtain ⟨p5, hp⟩ : ∃ p, p = V2.heap.size := ⟨_, rfl⟩
      rw [<- hp] at xp5 hlep5 ⊢
      clear hp
      have hS := HKS.out _ hb
      refine hK _ _ hS ?_
      clear hK
      try simp only [Act.put, zq1, zq2, zq3, zq4, zq5, zq6]
      refine anyX_2 (i := 5) (j := 8) (by kernel_rfl) (by decide) (by decide) rfl rfl rfl rfl ?_ ?_
      ·intro K hK
       try simp only [zq1, zq2, zq3]
       refine wp_enterE #[.int .i64 (n : Int)] Try.func51 (by kernel_rfl) (by kernel_rfl) ?_ (noneOf_any n hn V3) ?_
       ·go_simp
       rintro e V4 ⟨gn, rfl, hgn2, ho2, hbn⟩
       refine ⟨_, rfl, ?_⟩
       replace ho2 := ho2.more hb.size
       have hne : go ≠ gn := by have q := (ho.lt go rfl).2; intro e; subst e; omega
       clear hgn2
       replace ho := ho.below_top hbn
       replace xp5 := Blk.below xp5 hbn xp5.lt
       replace hb := hb.trans (hbn.mono hb.size)
       clear hbn
       have hS := HKS.out _ hb
       refine hK _ _ hS ?_
       clear hK
       try simp only [Act.put, zq1, zq2, zq3, zq4, zq5, zq6]
       refine tkx (i := 6) (v := ?_) hS ?_ ?_ (hQ := by exact ends_panic _ _ (fun _ _ _ h => h))
       rotate_left
       ·rintro w' _
        go_simp
        try with_reducible rfl
       try simp only [Act.put, zq1, zq2, zq3, zq4, zq5, zq6]
       refine anyX_g (i := 8) (by kernel_rfl) (by decide) rfl (by rfl) ?_
       intro K hK
       try simp only [zq1, zq2, zq3]
       go_simp
       obtain ⟨V5, eV⟩ : ∃ W', V4.alloc (.cells #[.slice none 0 0, .slice none 0 0, .slice none 0 0] 61) = W' := ⟨_, rfl⟩
       have hbn : Below V4.heap.size V4 V5 := by rw [<- eV]; exact (Below.refl _ _).alloc (Nat.le_refl _) _
       have xp6 : Blk V5 V4.heap.size 61 #[.slice none 0 0, .slice none 0 0, .slice none 0 0] := by rw [<- eV]; exact Blk.new _ _ _
       have hlep6 := hb.size
       rw [eV]
       clear eV
       replace ho := ho.below_top hbn
       replace xp5 := Blk.below xp5 hbn xp5.lt
       replace ho2 := ho2.below_top hbn
       replace hb := hb.trans (hbn.mono hb.size)
       clear hbn
       obtain ⟨p6, hp⟩ : ∃ p, p = V4.heap.size := ⟨_, rfl⟩
       rw [<- hp] at xp6 hlep6 ⊢
       clear hp
       have hS := HKS.out _ hb
       refine hK _ _ hS ?_
       clear hK
       try simp only [Act.put, zq1, zq2, zq3, zq4, zq5, zq6]
       have hlf := HLF ⟨p5, p6, ga, ca, gp, cp, go, co, gs, cs, TA, tn, tc, c, f, gn⟩ _ ⟨⟨hb, ho, ho2, hne, hff, hpd, hlep5, hlep6⟩, xp5, xp6, hS⟩
       dsimp only at hlf
       simp only [Act.put, zq1, zq2, zq3, zq4, zq5, zq6] at hlf
       exact hlf
      ·intro K hK
       try simp only [zq1, zq2, zq3]
       go_simp
       obtain ⟨V4, eV⟩ : ∃ W', V3.alloc (.cells #[.slice none 0 0, .slice none 0 0, .slice none 0 0] 61) = W' := ⟨_, rfl⟩
       have hbn : Below V3.heap.size V3 V4 := by rw [<- eV]; exact (Below.refl _ _).alloc (Nat.le_refl _) _
       have xp6 : Blk V4 V3.heap.size 61 #[.slice none 0 0, .slice none 0 0, .slice none 0 0] := by rw [<- eV]; exact Blk.new _ _ _
       have hlep6 := hb.size
       rw [eV]
       clear eV
       replace ho := ho.below_top hbn
       replace xp5 := Blk.below xp5 hbn xp5.lt
       replace hb := hb.trans (hbn.mono hb.size)
       clear hbn
       obtain ⟨p6, hp⟩ : ∃ p, p = V3.heap.size := ⟨_, rfl⟩
       rw [<- hp] at xp6 hlep6 ⊢
       clear hp
       have hS := HKS.out _ hb
       refine hK _ _ hS ?_
       clear hK
       try simp only [Act.put, zq1, zq2, zq3, zq4, zq5, zq6]
       refine anyX_g (i := 5) (by kernel_rfl) (by decide) rfl (by rfl) ?_
       intro K hK
       try simp only [zq1, zq2, zq3]
       refine wp_enterE #[.int .i64 (n : Int)] Try.func51 (by kernel_rfl) (by kernel_rfl) ?_ (noneOf_any n hn V4) ?_
       ·go_simp
       rintro e V5 ⟨gn, rfl, hgn2, ho2, hbn⟩
       refine ⟨_, rfl, ?_⟩
       replace ho2 := ho2.more hb.size
       have hne : go ≠ gn := by have q := (ho.lt go rfl).2; intro e; subst e; omega
       clear hgn2
       replace ho := ho.below_top hbn
       replace xp5 := Blk.below xp5 hbn xp5.lt
       replace xp6 := Blk.below xp6 hbn xp6.lt
       replace hb := hb.trans (hbn.mono hb.size)
       clear hbn
       have hS := HKS.out _ hb
       refine hK _ _ hS ?_
       clear hK
       try simp only [Act.put, zq1, zq2, zq3, zq4, zq5, zq6]
       refine tkx (i := 6) (v := ?_) hS ?_ ?_ (hQ := by exact ends_panic _ _ (fun _ _ _ h => h))
       rotate_left
       ·rintro w' _
        go_simp
        try with_reducible rfl
       try simp only [Act.put, zq1, zq2, zq3, zq4, zq5, zq6]
       have hlf := HLF ⟨p5, p6, ga, ca, gp, cp, go, co, gs, cs, TA, tn, tc, c, f, gn⟩ _ ⟨⟨hb, ho, ho2, hne, hff, hpd, hlep5, hlep6⟩, xp5, xp6, hS⟩
       dsimp only at hlf
       simp only [Act.put, zq1, zq2, zq3, zq4, zq5, zq6] at hlf
       exact hlf
     ·intro K hK
      try simp only [zq1, zq2, zq3]
      go_simp
      obtain ⟨V3, eV⟩ : ∃ W', V2.alloc (.cells #[.slice none 0 0, .slice none 0 0, .slice none 0 0] 61) = W' := ⟨_, rfl⟩
      have hbn : Below V2.heap.size V2 V3 := by rw [<- eV]; exact (Below.refl _ _).alloc (Nat.le_refl _) _
      have xp6 : Blk V3 V2.heap.size 61 #[.slice none 0 0, .slice none 0 0, .slice none 0 0] := by rw [<- eV]; exact Blk.new _ _ _
      have hlep6 := hb.size
      rw [eV]
      clear eV
      replace ho := ho.below_top hbn
      replace hb := hb.trans (hbn.mono hb.size)
      clear hbn
      obtain ⟨p6, hp⟩ : ∃ p, p = V2.heap.size := ⟨_, rfl⟩
      rw [<- hp] at xp6 hlep6 ⊢
      clear hp
      have hS := HKS.out _ hb
      refine hK _ _ hS ?_
      clear hK
      try simp only [Act.put, zq1, zq2, zq3, zq4, zq5, zq6]
      refine anyX_2 (i := 5) (j := 7) (by kernel_rfl) (by decide) (by decide) rfl rfl rfl rfl ?_ ?_
      ·intro K hK
       try simp only [zq1, zq2, zq3]
       refine wp_enterE #[.int .i64 (n : Int)] Try.func51 (by kernel_rfl) (by kernel_rfl) ?_ (noneOf_any n hn V3) ?_
       ·go_simp
       rintro e V4 ⟨gn, rfl, hgn2, ho2, hbn⟩
       refine ⟨_, rfl, ?_⟩
       replace ho2 := ho2.more hb.size
       have hne : go ≠ gn := by have q := (ho.lt go rfl).2; intro e; subst e; omega
       clear hgn2
       replace ho := ho.below_top hbn
       replace xp6 := Blk.below xp6 hbn xp6.lt
       replace hb := hb.trans (hbn.mono hb.size)
       clear hbn
       have hS := HKS.out _ hb
       refine hK _ _ hS ?_
       clear hK
       try simp only [Act.put, zq1, zq2, zq3, zq4, zq5, zq6]
       refine tkx (i := 6) (v := ?_) hS ?_ ?_ (hQ := by exact ends_panic _ _ (fun _ _ _ h => h))
       rotate_left
       ·rintro w' _
        go_simp
        try with_reducible rfl
       try simp only [Act.put, zq1, zq2, zq3, zq4, zq5, zq6]
       refine anyX_g (i := 7) (by kernel_rfl) (by decide) rfl (by rfl) ?_
       intro K hK
       try simp only [zq1, zq2, zq3]
       go_simp
       obtain ⟨V5, eV⟩ : ∃ W', V4.alloc (.cells #[.slice none 0 0, .slice none 0 0, .slice none 0 0, .slice none 0 0, .slice none 0 0] 87) = W' := ⟨_, rfl⟩
       have hbn : Below V4.heap.size V4 V5 := by rw [<- eV]; exact (Below.refl _ _).alloc (Nat.le_refl _) _
       have xp5 : Blk V5 V4.heap.size 87 #[.slice none 0 0, .slice none 0 0, .slice none 0 0, .slice none 0 0, .slice none 0 0] := by rw [<- eV]; exact Blk.new _ _ _
       have hlep5 := hb.size
       rw [eV]
       clear eV
       replace ho := ho.below_top hbn
       replace xp6 := Blk.below xp6 hbn xp6.lt
       replace ho2 := ho2.below_top hbn
       replace hb := hb.trans (hbn.mono hb.size)
       clear hbn
       obtain ⟨p5, hp⟩ : ∃ p, p = V4.heap.size := ⟨_, rfl⟩
       rw [<- hp] at xp5 hlep5 ⊢
       clear hp
       have hS := HKS.out _ hb
       refine hK _ _ hS ?_
       clear hK
       try simp only [Act.put, zq1, zq2, zq3, zq4, zq5, zq6]
       have hlf := HLF ⟨p5, p6, ga, ca, gp, cp, go, co, gs, cs, TA, tn, tc, c, f, gn⟩ _ ⟨⟨hb, ho, ho2, hne, hff, hpd, hlep5, hlep6⟩, xp5, xp6, hS⟩
       dsimp only at hlf
       simp only [Act.put, zq1, zq2, zq3, zq4, zq5, zq6] at hlf
       exact hlf
      ·intro K hK
       try simp only [zq1, zq2, zq3]
       go_simp
       obtain ⟨V4, eV⟩ : ∃ W', V3.alloc (.cells #[.slice none 0 0, .slice none 0 0, .slice none 0 0, .slice none 0 0, .slice none 0 0] 87) = W' := ⟨_, rfl⟩
       have hbn : Below V3.heap.size V3 V4 := by rw [<- eV]; exact (Below.refl _ _).alloc (Nat.le_refl _) _
       have xp5 : Blk V4 V3.heap.size 87 #[.slice none 0 0, .slice none 0 0, .slice none 0 0, .slice none 0 0, .slice none 0 0] := by rw [<- eV]; exact Blk.new _ _ _
       have hlep5 := hb.size
       rw [eV]
       clear eV
       replace ho := ho.below_top hbn
       replace xp6 := Blk.below xp6 hbn xp6.lt
       replace hb := hb.trans (hbn.mono hb.size)
       clear hbn
       obtain ⟨p5, hp⟩ : ∃ p, p = V3.heap.size := ⟨_, rfl⟩
       rw [<- hp] at xp5 hlep5 ⊢
       clear hp
       have hS := HKS.out _ hb
       refine hK _ _ hS ?_
       clear hK
       try simp only [Act.put, zq1, zq2, zq3, zq4, zq5, zq6]
       refine anyX_g (i := 5) (by kernel_rfl) (by decide) rfl (by rfl) ?_
       intro K hK
       try simp only [zq1, zq2, zq3]
       refine wp_enterE #[.int .i64 (n : Int)] Try.func51 (by kernel_rfl) (by kernel_rfl) ?_ (noneOf_any n hn V4) ?_
       ·go_simp
       rintro e V5 ⟨gn, rfl, hgn2, ho2, hbn⟩
       refine ⟨_, rfl, ?_⟩
       replace ho2 := ho2.more hb.size
       have hne : go ≠ gn := by have q := (ho.lt go rfl).2; intro e; subst e; omega
       clear hgn2
       replace ho := ho.below_top hbn
       replace xp6 := Blk.below xp6 hbn xp6.lt
       replace xp5 := Blk.below xp5 hbn xp5.lt
       replace hb := hb.trans (hbn.mono hb.size)
       clear hbn
       have hS := HKS.out _ hb
       refine hK _ _ hS ?_
       clear hK
       try simp only [Act.put, zq1, zq2, zq3, zq4, zq5, zq6]
       refine tkx (i := 6) (v := ?_) hS ?_ ?_ (hQ := by exact ends_panic _ _ (fun _ _ _ h => h))
       rotate_left
       ·rintro w' _
        go_simp
        try with_reducible rfl
       try simp only [Act.put, zq1, zq2, zq3, zq4, zq5, zq6]
       have hlf := HLF ⟨p5, p6, ga, ca, gp, cp, go, co, gs, cs, TA, tn, tc, c, f, gn⟩ _ ⟨⟨hb, ho, ho2, hne, hff, hpd, hlep5, hlep6⟩, xp5, xp6, hS⟩
       dsimp only at hlf
       simp only [Act.put, zq1, zq2, zq3, zq4, zq5, zq6] at hlf
       exact hlf
    ·intro K hK
     try simp only [zq1, zq2, zq3]
     go_simp
     obtain ⟨V2, eV⟩ : ∃ W', V1.alloc (.cells #[.slice none 0 0, .slice none 0 0, .slice none 0 0, .slice none 0 0, .slice none 0 0] 87) = W' := ⟨_, rfl⟩
     have hbn : Below V1.heap.size V1 V2 := by rw [<- eV]; exact (Below.refl _ _).alloc (Nat.le_refl _) _
     have xp5 : Blk V2 V1.heap.size 87 #[.slice none 0 0, .slice none 0 0, .slice none 0 0, .slice none 0 0, .slice none 0 0] := by rw [<- eV]; exact Blk.new _ _ _
     have hlep5 := hb.size
     rw [eV]
     clear eV
     replace ho := ho.below_top hbn
     replace hb := hb.trans (hbn.mono hb.size)
     clear hbn
     obtain ⟨p5, hp⟩ : ∃ p, p = V1.heap.size := ⟨_, rfl⟩
     rw [<- hp] at xp5 hlep5 ⊢
     clear hp
     have hS := HKS.out _ hb
     refine hK _ _ hS ?_
     clear hK
     try simp only [Act.put, zq1, zq2, zq3, zq4, zq5, zq6]
     refine anyX_2 (i := 4) (j := 8) (by kernel_rfl) (by decide) (by decide) rfl rfl rfl rfl ?_ ?_
     ·intro K hK
      try simp only [zq1, zq2, zq3]
      refine wp_enterE #[.agg #[.slice NA n nc]] Try.func48 (by kernel_rfl) (by kernel_rfl) ?_ (size_any NA n nc V2) ?_
      ·go_simp
      rintro e V3 ⟨rfl, hbn⟩
      refine ⟨_, rfl, ?_⟩
      replace ho := ho.below_top hbn
      replace xp5 := Blk.below xp5 hbn xp5.lt
      replace hb := hb.trans (hbn.mono hb.size)
      clear hbn
      have hS := HKS.out _ hb
      refine hK _ _ hS ?_
      clear hK
      try simp only [Act.put, zq1, zq2, zq3, zq4, zq5, zq6]
      refine anyX_2 (i := 5) (j := 8) (by kernel_rfl) (by decide) (by decide) rfl rfl rfl rfl ?_ ?_
      ·intro K hK
       try simp only [zq1, zq2, zq3]
       refine wp_enterE #[.int .i64 (n : Int)] Try.func51 (by kernel_rfl) (by kernel_rfl) ?_ (noneOf_any n hn V3) ?_
       ·go_simp
       rintro e V4 ⟨gn, rfl, hgn2, ho2, hbn⟩
       refine ⟨_, rfl, ?_⟩
       replace ho2 := ho2.more hb.size
       have hne : go ≠ gn := by have q := (ho.lt go rfl).2; intro e; subst e; omega
       clear hgn2
       replace ho := ho.below_top hbn
       replace xp5 := Blk.below xp5 hbn xp5.lt
       replace hb := hb.trans (hbn.mono hb.size)
       clear hbn
       have hS := HKS.out _ hb
       refine hK _ _ hS ?_
       clear hK
       try simp only [Act.put, zq1, zq2, zq3, zq4, zq5, zq6]
       refine tkx (i := 6) (v := ?_) hS ?_ ?_ (hQ := by exact ends_panic _ _ (fun _ _ _ h => h))
       rotate_left
       ·rintro w' _
        go_simp
        try with_reducible rfl
       try simp only [Act.put, zq1, zq2, zq3, zq4, zq5, zq6]
       refine anyX_g (i := 8) (by kernel_rfl) (by decide) rfl (by rfl) ?_
       intro K hK
       try simp only [zq1, zq2, zq3]
       go_simp
       obtain ⟨V5, eV⟩ : ∃ W', V4.alloc (.cells #[.slice none 0 0, .slice none 0 0, .slice none 0 0] 61) = W' := ⟨_, rfl⟩
       have hbn : Below V4.heap.size V4 V5 := by rw [<- eV]; exact (Below.refl _ _).alloc (Nat.le_refl _) _
       have xp6 : Blk V5 V4.heap.size 61 #[.slice none 0 0, .slice none 0 0, .slice none 0 0] := by rw [<- eV]; exact Blk.new _ _ _
       have hlep6 := hb.size
       rw [eV]
       clear eV
       replace ho := ho.below_top hbn
       replace xp5 := Blk.below xp5 hbn xp5.lt
       replace ho2 := ho2.below_top hbn
       replace hb := hb.trans (hbn.mono hb.size)
       clear hbn
       obtain ⟨p6, hp⟩ : ∃ p, p = V4.heap.size := ⟨_, rfl⟩
       rw [<- hp] at xp6 hlep6 ⊢
       clear hp
       have hS := HKS.out _ hb
       refine hK _ _ hS ?_
       clear hK
       try simp only [Act.put, zq1, zq2, zq3, zq4, zq5, zq6]
       have hlf := HLF ⟨p5, p6, ga, ca, gp, cp, go, co, gs, cs, TA, tn, tc, c, f, gn⟩ _ ⟨⟨hb, ho, ho2, hne, hff, hpd, hlep5, hlep6⟩, xp5, xp6, hS⟩
       dsimp only at hlf
       simp only [Act.put, zq1, zq2, zq3, zq4, zq5, zq6] at hlf
       exact hlf
      ·intro K hK
       try simp only [zq1, zq2, zq3]
       go_simp
       obtain ⟨V4, eV⟩ : ∃ W', V3.alloc (.cells #[.slice none 0 0, .slice none 0 0, .slice none 0 0] 61) = W' := ⟨_, rfl⟩
       have hbn : Below V3.heap.size V3 V4 := by rw [<- eV]; exact (Below.refl _ _).alloc (Nat.le_refl _) _
       have xp6 : Blk V4 V3.heap.size 61 #[.slice none 0 0, .slice none 0 0, .slice none 0 0] := by rw [<- eV]; exact Blk.new _ _ _
       have hlep6 := hb.size
       rw [eV]
       clear eV
       replace ho := ho.below_top hbn
       replace xp5 := Blk.below xp5 hbn xp5.lt
       replace hb := hb.trans (hbn.mono hb.size)
       clear hbn
       obtain ⟨p6, hp⟩ : ∃ p, p = V3.heap.size := ⟨_, rfl⟩
       rw [<- hp] at xp6 hlep6 ⊢
       clear hp
       have hS := HKS.out _ hb
       refine hK _ _ hS ?_
       clear hK
       try simp only [Act.put, zq1, zq2, zq3, zq4, zq5, zq6]
       refine anyX_g (i := 5) (by kernel_rfl) (by decide) rfl (by rfl) ?_
       intro K hK
       try simp only [zq1, zq2, zq3]
       refine wp_enterE #[.int .i64 (n : Int)] Try.func51 (by kernel_rfl) (by kernel_rfl) ?_ (noneOf_any n hn V4) ?_
       ·go_simp
       rintro e V5 ⟨gn, rfl, hgn2, ho2, hbn⟩
       refine ⟨_, rfl, ?_⟩
       replace ho2 := ho2.more hb.size
       have hne : go ≠ gn := by have q := (ho.lt go rfl).2; intro e; subst e; omega
       clear hgn2
       replace ho := ho.below_top hbn
       replace xp5 := Blk.below xp5 hbn xp5.lt
       replace xp6 := Blk.below xp6 hbn xp6.lt
       replace hb := hb.trans (hbn.mono hb.size)
       clear hbn
       have hS := HKS.out _ hb
       refine hK _ _ hS ?_
       clear hK
       try simp only [Act.put, zq1, zq2, zq3, zq4, zq5, zq6]
       refine tkx (i := 6) (v := ?_) hS ?_ ?_ (hQ := by exact ends_panic _ _ (fun _ _ _ h => h))
       rotate_left
       ·rintro w' _
        go_simp
        try with_reducible rfl
       try simp only [Act.put, zq1, zq2, zq3, zq4, zq5, zq6]
       have hlf := HLF ⟨p5, p6, ga, ca, gp, cp, go, co, gs, cs, TA, tn, tc, c, f, gn⟩ _ ⟨⟨hb, ho, ho2, hne, hff, hpd, hlep5, hlep6⟩, xp5, xp6, hS⟩
       dsimp only at hlf
       simp only [Act.put, zq1, zq2, zq3, zq4, zq5, zq6] at hlf
       exact hlf
     ·intro K hK
      try simp only [zq1, zq2, zq3]
      go_simp
      obtain ⟨V3, eV⟩ : ∃ W', V2.alloc (.cells #[.slice none 0 0, .slice none 0 0, .slice none 0 0] 61) = W' := ⟨_, rfl⟩
      have hbn : Below V2.heap.size V2 V3 := by rw [<- eV]; exact (Below.refl _ _).alloc (Nat.le_refl _) _
      have xp6 : Blk V3 V2.heap.size 61 #[.slice none 0 0, .slice none 0 0, .slice none 0 0] := by rw [<- eV]; exact Blk.new _ _ _
      have hlep6 := hb.size
      rw [eV]
      clear eV
      replace ho := ho.below_top hbn
      replace xp5 := Blk.below xp5 hbn xp5.lt
      replace hb := hb.trans (hbn.mono hb.size)
      clear hbn
      obtain ⟨p6, hp⟩ : ∃ p, p = V2.heap.size := ⟨_, rfl⟩
      rw [<- hp] at xp6 hlep6 ⊢
      clear hp
      have hS := HKS.out _ hb
      refine hK _ _ hS ?_
      clear hK
      try simp only [Act.put, zq1, zq2, zq3, zq4, zq5, zq6]
      refine anyX_g (i := 4) (by kernel_rfl) (by decide) rfl (by rfl) ?_
      intro K hK
      try simp only [zq1, zq2, zq3]
      refine wp_enterE #[.agg #[.slice NA n nc]] Try.func48 (by kernel_rfl) (by kernel_rfl) ?_ (size_any NA n nc V3) ?_
      ·go_simp
      rintro e V4 ⟨rfl, hbn⟩
      refine ⟨_, rfl, ?_⟩
      replace ho := ho.below_top hbn
      replace xp5 := Blk.below xp5 hbn xp5.lt
      replace xp6 := Blk.below xp6 hbn xp6.lt
      replace hb := hb.trans (hbn.mono hb.size)
      clear hbn
      have hS := HKS.out _ hb
      refine hK _ _ hS ?_
      clear hK
      try simp only [Act.put, zq1, zq2, zq3, zq4, zq5, zq6]
      refine anyX_g (i := 5) (by kernel_rfl) (by decide) rfl (by rfl) ?_
      intro K hK
      try simp only [zq1, zq2, zq3]
      refine wp_enterE #[.int .i64 (n : Int)] Try.func51 (by kernel_rfl) (by kernel_rfl) ?_ (noneOf_any n hn V4) ?_
      ·go_simp
      rintro e V5 ⟨gn, rfl, hgn2, ho2, hbn⟩
      refine ⟨_, rfl, ?_⟩
      replace ho2 := ho2.more hb.size
      have hne : go ≠ gn := by have q := (ho.lt go rfl).2; intro e; subst e; omega
      clear hgn2
      replace ho := ho.below_top hbn
      replace xp5 := Blk.below xp5 hbn xp5.lt
      replace xp6 := Blk.below xp6 hbn xp6.lt
      replace hb := hb.trans (hbn.mono hb.size)
      clear hbn
      have hS := HKS.out _ hb
      refine hK _ _ hS ?_
      clear hK
      try simp only [Act.put, zq1, zq2, zq3, zq4, zq5, zq6]
      refine tkx (i := 6) (v := ?_) hS ?_ ?_ (hQ := by exact ends_panic _ _ (fun _ _ _ h => h))
      rotate_left
      ·rintro w' _
       go_simp
       try with_reducible rfl
      try simp only [Act.put, zq1, zq2, zq3, zq4, zq5, zq6]
      have hlf := HLF ⟨p5, p6, ga, ca, gp, cp, go, co, gs, cs, TA, tn, tc, c, f, gn⟩ _ ⟨⟨hb, ho, ho2, hne, hff, hpd, hlep5, hlep6⟩, xp5, xp6, hS⟩
      dsimp only at hlf
      simp only [Act.put, zq1, zq2, zq3, zq4, zq5, zq6] at hlf
      exact hlf
    ·intro K hK
     try simp only [zq1, zq2, zq3]
     go_simp
     obtain ⟨V2, eV⟩ : ∃ W', V1.alloc (.cells #[.slice none 0 0, .slice none 0 0, .slice none 0 0] 61) = W' := ⟨_, rfl⟩
     have hbn : Below V1.heap.size V1 V2 := by rw [<- eV]; exact (Below.refl _ _).alloc (Nat.le_refl _) _
     have xp6 : Blk V2 V1.heap.size 61 #[.slice none 0 0, .slice none 0 0, .slice none 0 0] := by rw [<- eV]; exact Blk.new _ _ _
     have hlep6 := hb.size
     rw [eV]
     clear eV
     replace ho := ho.below_top hbn
     replace hb := hb.trans (hbn.mono hb.size)
     clear hbn
     obtain ⟨p6, hp⟩ : ∃ p, p = V1.heap.size := ⟨_, rfl⟩
     rw [<- hp] at xp6 hlep6 ⊢
     clear hp
     have hS := HKS.out _ hb
     refine hK _ _ hS ?_
     clear hK
     try simp only [Act.put, zq1, zq2, zq3, zq4, zq5, zq6]
     refine anyX_2 (i := 4) (j := 7) (by kernel_rfl) (by decide) (by decide) rfl rfl rfl rfl ?_ ?_
     ·intro K hK
      try simp only [zq1, zq2, zq3]
      refine wp_enterE #[.agg #[.slice NA n nc]] Try.func48 (by kernel_rfl) (by kernel_rfl) ?_ (size_any NA n nc V2) ?_
      ·go_simp
      rintro e V3 ⟨rfl, hbn⟩
      refine ⟨_, rfl, ?_⟩
      replace ho := ho.below_top hbn
      replace xp6 := Blk.below xp6 hbn xp6.lt
      replace hb := hb.trans (hbn.mono hb.size)
      clear hbn
      have hS := HKS.out _ hb
      refine hK _ _ hS ?_
      clear hK
      try simp only [Act.put, zq1, zq2, zq3, zq4, zq5, zq6]
      refine anyX_2 (i := 5) (j := 7) (by kernel_rfl) (by decide) (by decide) rfl rfl rfl rfl ?_ ?_
      ·intro K hK
       try simp only [zq1, zq2, zq3]
       refine wp_enterE #[.int .i64 (n : Int)] Try.func51 (by kernel_rfl) (by kernel_rfl) ?_ (noneOf_any n hn V3) ?_
       ·go_simp
       rintro e V4 ⟨gn, rfl, hgn2, ho2, hbn⟩
       refine ⟨_, rfl, ?_⟩
       replace ho2 := ho2.more hb.size
       have hne : go ≠ gn := by have q := (ho.lt go rfl).2; intro e; subst e; omega
       clear hgn2
       replace ho := ho.below_top hbn
       replace xp6 := Blk.below xp6 hbn xp6.lt
       replace hb := hb.trans (hbn.mono hb.size)
       clear hbn
       have hS := HKS.out _ hb
       refine hK _ _ hS ?_
       clear hK
       try simp only [Act.put, zq1, zq2, zq3, zq4, zq5, zq6]
       refine tkx (i := 6) (v := ?_) hS ?_ ?_ (hQ := by exact ends_panic _ _ (fun _ _ _ h => h))
       rotate_left
       ·rintro w' _
        go_simp
        try with_reducible rfl
       try simp only [Act.put, zq1, zq2, zq3, zq4, zq5, zq6]
       refine anyX_g (i := 7) (by kernel_rfl) (by decide) rfl (by rfl) ?_
       intro K hK
       try simp only [zq1, zq2, zq3]
       go_simp
       obtain ⟨V5, eV⟩ : ∃ W', V4.alloc (.cells #[.slice none 0 0, .slice none 0 0, .slice none 0 0, .slice none 0 0, .slice none 0 0] 87) = W' := ⟨_, rfl⟩
       have hbn : Below V4.heap.size V4 V5 := by rw [<- eV]; exact (Below.refl _ _).alloc (Nat.le_refl _) _
       have xp5 : Blk V5 V4.heap.size 87 #[.slice none 0 0, .slice none 0 0, .slice none 0 0, .slice none 0 0, .slice none 0 0] := by rw [<- eV]; exact Blk.new _ _ _
       have hlep5 := hb.size
       rw [eV]
       clear eV
       replace ho := ho.below_top hbn
       replace xp6 := Blk.below xp6 hbn xp6.lt
       replace ho2 := ho2.below_top hbn
       replace hb := hb.trans (hbn.mono hb.size)
       clear hbn
       obtain ⟨p5, hp⟩ : ∃ p, p = V4.heap.size := ⟨_, rfl⟩
       rw [<- hp] at xp5 hlep5 ⊢
       clear hp
       have hS := HKS.out _ hb
       refine hK _ _ hS ?_
       clear hK
       try simp only [Act.put, zq1, zq2, zq3, zq4, zq5, zq6]
       have hlf := HLF ⟨p5, p6, ga, ca, gp, cp, go, co, gs, cs, TA, tn, tc, c, f, gn⟩ _ ⟨⟨hb, ho, ho2, hne, hff, hpd, hlep5, hlep6⟩, xp5, xp6, hS⟩
       dsimp only at hlf
       simp only [Act.put, zq1, zq2, zq3, zq4, zq5, zq6] at hlf
       exact hlf
      ·intro K hK
       try simp only [zq1, zq2, zq3]
       go_simp
       obtain ⟨V4, eV⟩ : ∃ W', V3.alloc (.cells #[.slice none 0 0, .slice none 0 0, .slice none 0 0, .slice none 0 0, .slice none 0 0] 87) = W' := ⟨_, rfl⟩
       have hbn : Below V3.heap.size V3 V4 := by rw [<- eV]; exact (Below.refl _ _).alloc (Nat.le_refl _) _
       have xp5 : Blk V4 V3.heap.size 87 #[.slice none 0 0, .slice none 0 0, .slice none 0 0, .slice none 0 0, .slice none 0 0] := by rw [<- eV]; exact Blk.new _ _ _
       have hlep5 := hb.size
       rw [eV]
       clear eV
       replace ho := ho.below_top hbn
       replace xp6 := Blk.below xp6 hbn xp6.lt
       replace hb := hb.trans (hbn.mono hb.size)
       clear hbn
       obtain ⟨p5, hp⟩ : ∃ p, p = V3.heap.size := ⟨_, rfl⟩
       rw [<- hp] at xp5 hlep5 ⊢
       clear hp
       have hS := HKS.out _ hb
       refine hK _ _ hS ?_
       clear hK
       try simp only [Act.put, zq1, zq2, zq3, zq4, zq5, zq6]
       refine anyX_g (i := 5) (by kernel_rfl) (by decide) rfl (by rfl) ?_
       intro K hK
       try simp only [zq1, zq2, zq3]
       refine wp_enterE #[.int .i64 (n : Int)] Try.func51 (by kernel_rfl) (by kernel_rfl) ?_ (noneOf_any n hn V4) ?_
       ·go_simp
       rintro e V5 ⟨gn, rfl, hgn2, ho2, hbn⟩
       refine ⟨_, rfl, ?_⟩
       replace ho2 := ho2.more hb.size
       have hne : go ≠ gn := by have q := (ho.lt go rfl).2; intro e; subst e; omega
       clear hgn2
       replace ho := ho.below_top hbn
       replace xp6 := Blk.below xp6 hbn xp6.lt
       replace xp5 := Blk.below xp5 hbn xp5.lt
       replace hb := hb.trans (hbn.mono hb.size)
       clear hbn
       have hS := HKS.out _ hb
       refine hK _ _ hS ?_
       clear hK
       try simp only [Act.put, zq1, zq2, zq3, zq4, zq5, zq6]
       refine tkx (i := 6) (v := ?_) hS ?_ ?_ (hQ := by exact ends_panic _ _ (fun _ _ _ h => h))
       rotate_left
       ·rintro w' _
        go_simp
        try with_reducible rfl
       try simp only [Act.put, zq1, zq2, zq3, zq4, zq5, zq6]
       have hlf := HLF ⟨p5, p6, ga, ca, gp, cp, go, co, gs, cs, TA, tn, tc, c, f, gn⟩ _ ⟨⟨hb, ho, ho2, hne, hff, hpd, hlep5, hlep6⟩, xp5, xp6, hS⟩
       dsimp only at hlf
       simp only [Act.put, zq1, zq2, zq3, zq4, zq5, zq6] at hlf
       exact hlf
     ·intro K hK
      try simp only [zq1, zq2, zq3]
      go_simp
      obtain ⟨V3, eV⟩ : ∃ W', V2.alloc (.cells #[.slice none 0 0, .slice none 0 0, .slice none 0 0, .slice none 0 0, .slice none 0 0] 87) = W' := ⟨_, rfl⟩
      have hbn : Below V2.heap.size V2 V3 := by rw [<- eV]; exact (Below.refl _ _).alloc (Nat.le_refl _) _
      have xp5 : Blk V3 V2.heap.size 87 #[.slice none 0 0, .slice none 0 0, .slice none 0 0, .slice none 0 0, .slice none 0 0] := by rw [<- eV]; exact Blk.new _ _ _
      have hlep5 := hb.size
      rw [eV]
      clear eV
      replace ho := ho.below_top hbn
      replace xp6 := Blk.below xp6 hbn xp6.lt
      replace hb := hb.trans (hbn.mono hb.size)
      clear hbn
      obtain ⟨p5, hp⟩ : ∃ p, p = V2.heap.size := ⟨_, rfl⟩
      rw [<- hp] at xp5 hlep5 ⊢
      clear hp
      have hS := HKS.out _ hb
      refine hK _ _ hS ?_
      clear hK
      try simp only [Act.put, zq1, zq2, zq3, zq4, zq5, zq6]
      refine anyX_g (i := 4) (by kernel_rfl) (by decide) rfl (by rfl) ?_
      intro K hK
      try simp only [zq1, zq2, zq3]
      refine wp_enterE #[.agg #[.slice NA n nc]] Try.func48 (by kernel_rfl) (by kernel_rfl) ?_ (size_any NA n nc V3) ?_
      ·go_simp
      rintro e V4 ⟨rfl, hbn⟩
      refine ⟨_, rfl, ?_⟩
      replace ho := ho.below_top hbn
      replace xp6 := Blk.below xp6 hbn xp6.lt
      replace xp5 := Blk.below xp5 hbn xp5.lt
      replace hb := hb.trans (hbn.mono hb.size)
      clear hbn
      have hS := HKS.out _ hb
      refine hK _ _ hS ?_
      clear hK
      try simp only [Act.put, zq1, zq2, zq3, zq4, zq5, zq6]
      refine anyX_g (i := 5) (by kernel_rfl) (by decide) rfl (by rfl) ?_
      intro K hK
      try simp only [zq1, zq2, zq3]
      refine wp_enterE #[.int .i64 (n : Int)] Try.func51 (by kernel_rfl) (by kernel_rfl) ?_ (noneOf_any n hn V4) ?_
      ·go_simp
      rintro e V5 ⟨gn, rfl, hgn2, ho2, hbn⟩
      refine ⟨_, rfl, ?_⟩
      replace ho2 := ho2.more hb.size
      have hne : go ≠ gn := by have q := (ho.lt go rfl).2; intro e; subst e; omega
      clear hgn2
      replace ho := ho.below_top hbn
      replace xp6 := Blk.below xp6 hbn xp6.lt
      replace xp5 := Blk.below xp5 hbn xp5.lt
      replace hb := hb.trans (hbn.mono hb.size)
      clear hbn
      have hS := HKS.out _ hb
      refine hK _ _ hS ?_
      clear hK
      try simp only [Act.put, zq1, zq2, zq3, zq4, zq5, zq6]
      refine tkx (i := 6) (v := ?_) hS ?_ ?_ (hQ := by exact ends_panic _ _ (fun _ _ _ h => h))
      rotate_left
      ·rintro w' _
       go_simp
       try with_reducible rfl
      try simp only [Act.put, zq1, zq2, zq3, zq4, zq5, zq6]
      have hlf := HLF ⟨p5, p6, ga, ca, gp, cp, go, co, gs, cs, TA, tn, tc, c, f, gn⟩ _ ⟨⟨hb, ho, ho2, hne, hff, hpd, hlep5, hlep6⟩, xp5, xp6, hS⟩
      dsimp only at hlf
      simp only [Act.put, zq1, zq2, zq3, zq4, zq5, zq6] at hlf
      exact hlf
   ·intro K hK
    try simp only [zq1, zq2, zq3]
    go_simp
    obtain ⟨V1, eV⟩ : ∃ W', V0.alloc (.cells #[.slice none 0 0, .slice none 0 0, .slice none 0 0, .slice none 0 0, .slice none 0 0] 87) = W' := ⟨_, rfl⟩
    have hbn : Below V0.heap.size V0 V1 := by rw [<- eV]; exact (Below.refl _ _).alloc (Nat.le_refl _) _
    have xp5 : Blk V1 V0.heap.size 87 #[.slice none 0 0, .slice none 0 0, .slice none 0 0, .slice none 0 0, .slice none 0 0] := by rw [<- eV]; exact Blk.new _ _ _
    have hlep5 := hb.size
    rw [eV]
    clear eV
    replace hb := hb.trans (hbn.mono hb.size)
    clear hbn
    obtain ⟨p5, hp⟩ : ∃ p, p = V0.heap.size := ⟨_, rfl⟩
    rw [<- hp] at xp5 hlep5 ⊢
    clear hp
    have hS := HKS.out _ hb
    refine hK _ _ hS ?_
    clear hK
    try simp only [Act.put, zq1, zq2, zq3, zq4, zq5, zq6]
    refine anyX_2 (i := 2) (j := 8) (by kernel_rfl) (by decide) (by decide) rfl rfl rfl rfl ?_ ?_
    ·intro K hK
     try simp only [zq1, zq2, zq3]
     refine wp_enterE #[.agg #[.slice NA n nc], .slice GA m gc] Try.func50 (by kernel_rfl) (by kernel_rfl) ?_ (alike_any (g := g) (HNR.out.below hb) HL.out HT.out hn hk (HGR.out.below hb) HGL.out hm HGN.out HGO.out) ?_
     ·go_simp
     rintro e V2 ⟨ga, ca, gp, cp, go, co, gs, cs, TA, tn, tc, c, f, rfl, ho, hff, hpd, hbn⟩
     refine ⟨_, rfl, ?_⟩
     replace ho := ho.more hb.size
     replace xp5 := Blk.below xp5 hbn xp5.lt
     replace hb := hb.trans (hbn.mono hb.size)
     clear hbn
     have hS := HKS.out _ hb
     refine hK _ _ hS ?_
     clear hK
     try simp only [Act.put, zq1, zq2, zq3, zq4, zq5, zq6]
     refine anyX_2 (i := 4) (j := 8) (by kernel_rfl) (by decide) (by decide) rfl rfl rfl rfl ?_ ?_
     ·intro K hK
      try simp only [zq1, zq2, zq3]
      refine wp_enterE #[.agg #[.slice NA n nc]] Try.func48 (by kernel_rfl) (by kernel_rfl) ?_ (size_any NA n nc V2) ?_
      ·go_simp
      rintro e V3 ⟨rfl, hbn⟩
      refine ⟨_, rfl, ?_⟩
      replace xp5 := Blk.below xp5 hbn xp5.lt
      replace ho := ho.below_top hbn
      replace hb := hb.trans (hbn.mono hb.size)
      clear hbn
      have hS := HKS.out _ hb
      refine hK _ _ hS ?_
      clear hK
      try simp only [Act.put, zq1, zq2, zq3, zq4, zq5, zq6]
      refine anyX_2 (i := 5) (j := 8) (by kernel_rfl) (by decide) (by decide) rfl rfl rfl rfl ?_ ?_
      ·intro K hK
       try simp only [zq1, zq2, zq3]
       refine wp_enterE #[.int .i64 (n : Int)] Try.func51 (by kernel_rfl) (by kernel_rfl) ?_ (noneOf_any n hn V3) ?_
       ·go_simp
       rintro e V4 ⟨gn, rfl, hgn2, ho2, hbn⟩
       refine ⟨_, rfl, ?_⟩
       replace ho2 := ho2.more hb.size
       have hne : go ≠ gn := by have q := (ho.lt go rfl).2; intro e; subst e; omega
       clear hgn2
       replace xp5 := Blk.below xp5 hbn xp5.lt
       replace ho := ho.below_top hbn
       replace hb := hb.trans (hbn.mono hb.size)
       clear hbn
       have hS := HKS.out _ hb
       refine hK _ _ hS ?_
       clear hK
       try simp only [Act.put, zq1, zq2, zq3, zq4, zq5, zq6]
       refine tkx (i := 6) (v := ?_) hS ?_ ?_ (hQ := by exact ends_panic _ _ (fun _ _ _ h => h))
       rotate_left
       ·rintro w' _
        go_simp
        try with_reducible rfl
       try simp only [Act.put, zq1, zq2, zq3, zq4, zq5, zq6]
       refine anyX_g (i := 8) (by kernel_rfl) (by decide) rfl (by rfl) ?_
       intro K hK
       try simp only [zq1, zq2, zq3]
       go_simp
       obtain ⟨V5, eV⟩ : ∃ W', V4.alloc (.cells #[.slice none 0 0, .slice none 0 0, .slice none 0 0] 61) = W' := ⟨_, rfl⟩
       have hbn : Below V4.heap.size V4 V5 := by rw [<- eV]; exact (Below.refl _ _).alloc (Nat.le_refl _) _
       have xp6 : Blk V5 V4.heap.size 61 #[.slice none 0 0, .slice none 0 0, .slice none 0 0] := by rw [<- eV]; exact Blk.new _ _ _
       have hlep6 := hb.size
       rw [eV]
       clear eV
       replace xp5 := Blk.below xp5 hbn xp5.lt
       replace ho := ho.below_top hbn
       replace ho2 := ho2.below_top hbn
       replace hb := hb.trans (hbn.mono hb.size)
       clear hbn
       obtain ⟨p6, hp⟩ : ∃ p, p = V4.heap.size := ⟨_, rfl⟩
       rw [<- hp] at xp6 hlep6 ⊢
       clear hp
       have hS := HKS.out _ hb
       refine hK _ _ hS ?_
       clear hK
       try simp only [Act.put, zq1, zq2, zq3, zq4, zq5, zq6]
       have hlf := HLF ⟨p5, p6, ga, ca, gp, cp, go, co, gs, cs, TA, tn, tc, c, f, gn⟩ _ ⟨⟨hb, ho, ho2, hne, hff, hpd, hlep5, hlep6⟩, xp5, xp6, hS⟩
       dsimp only at hlf
       simp only [Act.put, zq1, zq2, zq3, zq4, zq5, zq6] at hlf
       exact hlf
      ·intro K hK
       try simp only [zq1, zq2, zq3]
       go_simp
       obtain ⟨V4, eV⟩ : ∃ W', V3.alloc (.cells #[.slice none 0 0, .slice none 0 0, .slice none 0 0] 61) = W' := ⟨_, rfl⟩
       have hbn : Below V3.heap.size V3 V4 := by rw [<- eV]; exact (Below.refl _ _).alloc (Nat.le_refl _) _
       have xp6 : Blk V4 V3.heap.size 61 #[.slice none 0 0, .slice none 0 0, .slice none 0 0] := by rw [<- eV]; exact Blk.new _ _ _
       have hlep6 := hb.size
       rw [eV]
       clear eV
       replace xp5 := Blk.below xp5 hbn xp5.lt
       replace ho := ho.below_top hbn
       replace hb := hb.trans (hbn.mono hb.size)
       clear hbn
       obtain ⟨p6, hp⟩ : ∃ p, p = V3.heap.size := ⟨_, rfl⟩
       rw [<- hp] at xp6 hlep6 ⊢
       clear hp
       have hS := HKS.out _ hb
       refine hK _ _ hS ?_
       clear hK
       try simp only [Act.put, zq1, zq2, zq3, zq4, zq5, zq6]
       refine anyX_g (i := 5) (by kernel_rfl) (by decide) rfl (by rfl) ?_
       intro K hK
       try simp only [zq1, zq2, zq3]
       refine wp_enterE #[.int .i64 (n : Int)] Try.func51 (by kernel_rfl) (by kernel_rfl) ?_ (noneOf_any n hn V4) ?_
       ·go_simp
       rintro e V5 ⟨gn, rfl, hgn2, ho2, hbn⟩
       refine ⟨_, rfl, ?_⟩
       replace ho2 := ho2.more hb.size
       have hne : go ≠ gn := by have q := (ho.lt go rfl).2; intro e; subst e; omega
       clear hgn2
       replace xp5 := Blk.below xp5 hbn xp5.lt
       replace ho := ho.below_top hbn
       replace xp6 := Blk.below xp6 hbn xp6.lt
       replace hb := hb.trans (hbn.mono hb.size)
       clear hbn
       have hS := HKS.out _ hb
       refine hK _ _ hS ?_
       clear hK
       try simp only [Act.put, zq1, zq2, zq3, zq4, zq5, zq6]
       refine tkx (i := 6) (v := ?_) hS ?_ ?_ (hQ := by exact ends_panic _ _ (fun _ _ _ h => h))
       rotate_left
       ·rintro w' _
        go_simp
        try with_reducible rfl
       try simp only [Act.put, zq1, zq2, zq3, zq4, zq5, zq6]
       have hlf := HLF ⟨p5, p6, ga, ca, gp, cp, go, co, gs, cs, TA, tn, tc, c, f, gn⟩ _ ⟨⟨hb, ho, ho2, hne, hff, hpd, hlep5, hlep6⟩, xp5, xp6, hS⟩
       dsimp only at hlf
       simp only [Act.put, zq1, zq2, zq3, zq4, zq5, zq6] at hlf
       exact hlf
     ·intro K hK
      try simp only [zq1, zq2, zq3]
      go_simp
      obtain ⟨V3, eV⟩ : ∃ W', V2.alloc (.cells #[.slice none 0 0, .slice none 0 0, .slice none 0 0] 61) = W' := ⟨_, rfl⟩
      have hbn : Below V2.heap.size V2 V3 := by rw [<- eV]; exact (Below.refl _ _).alloc (Nat.le_refl _) _
      have xp6 : Blk V3 V2.heap.size 61 #[.slice none 0 0, .slice none 0 0, .slice none 0 0] := by rw [<- eV]; exact Blk.new _ _ _
      have hlep6 := hb.size
      rw [eV]
      clear eV
      replace xp5 := Blk.below xp5 hbn xp5.lt
      replace ho := ho.below_top hbn
      replace hb := hb.trans (hbn.mono hb.size)
      clear hbn
      obtain ⟨p6, hp⟩ : ∃ p, p = V2.heap.size := ⟨_, rfl⟩
      rw [<- hp] at xp6 hlep6 ⊢
      clear hp
      have hS := HKS.out _ hb
      refine hK _ _ hS ?_
      clear hK
      try simp only [Act.put, zq1, zq2, zq3, zq4, zq5, zq6]
      refine anyX_g (i := 4) (by kernel_rfl) (by decide) rfl (by rfl) ?_
      intro K hK
      try simp only [zq1, zq2, zq3]
      refine wp_enterE #[.agg #[.slice NA n nc]] Try.func48 (by kernel_rfl) (by kernel_rfl) ?_ (size_any NA n nc V3) ?_
      ·go_simp
      rintro e V4 ⟨rfl, hbn⟩
      refine ⟨_, rfl, ?_⟩
      replace xp5 := Blk.below xp5 hbn xp5.lt
      replace ho := ho.below_top hbn
      replace xp6 := Blk.below xp6 hbn xp6.lt
      replace hb := hb.trans (hbn.mono hb.size)
      clear hbn
      have hS := HKS.out _ hb
      refine hK _ _ hS ?_
      clear hK
      try simp only [Act.put, zq1, zq2, zq3, zq4, zq5, zq6]
      refine anyX_g (i := 5) (by kernel_rfl) (by decide) rfl (by rfl) ?_
      intro K hK
      try simp only [zq1, zq2, zq3]
      refine wp_enterE #[.int .i64 (n : Int)] Try.func51 (by kernel_rfl) (by kernel_rfl) ?_ (noneOf_any n hn V4) ?_
      ·go_simp
      rintro e V5 ⟨gn, rfl, hgn2, ho2, hbn⟩
      refine ⟨_, rfl, ?_⟩
      replace ho2 := ho2.more hb.size
      have hne : go ≠ gn := by have q := (ho.lt go rfl).2; intro e; subst e; omega
      clear hgn2
      replace xp5 := Blk.below xp5 hbn xp5.lt
      replace ho := ho.below_top hbn
      replace xp6 := Blk.below xp6 hbn xp6.lt
      replace hb := hb.trans (hbn.mono hb.size)
      clear hbn
      have hS := HKS.out _ hb
      refine hK _ _ hS ?_
      clear hK
      try simp only [Act.put, zq1, zq2, zq3, zq4, zq5, zq6]
      refine tkx (i := 6) (v := ?_) hS ?_ ?_ (hQ := by exact ends_panic _ _ (fun _ _ _ h => h))
      rotate_left
      ·rintro w' _
       go_simp
       try with_reducible rfl
      try simp only [Act.put, zq1, zq2, zq3, zq4, zq5, zq6]
      have hlf := HLF ⟨p5, p6, ga, ca, gp, cp, go, co, gs, cs, TA, tn, tc, c, f, gn⟩ _ ⟨⟨hb, ho, ho2, hne, hff, hpd, hlep5, hlep6⟩, xp5, xp6, hS⟩
      dsimp only at hlf
      simp only [Act.put, zq1, zq2, zq3, zq4, zq5, zq6] at hlf
      exact hlf
    ·intro K hK
     try simp only [zq1, zq2, zq3]
     go_simp
     obtain ⟨V2, eV⟩ : ∃ W', V1.alloc (.cells #[.slice none 0 0, .slice none 0 0, .slice none 0 0] 61) = W' := ⟨_, rfl⟩
     have hbn : Below V1.heap.size V1 V2 := by rw [<- eV]; exact (Below.refl _ _).alloc (Nat.le_refl _) _
     have xp6 : Blk V2 V1.heap.size 61 #[.slice none 0 0, .slice none 0 0, .slice none 0 0] := by rw [<- eV]; exact Blk.new _ _ _
     have hlep6 := hb.size
     rw [eV]
     clear eV
     replace xp5 := Blk.below xp5 hbn xp5.lt
     replace hb := hb.trans (hbn.mono hb.size)
     clear hbn
     obtain ⟨p6, hp⟩ : ∃ p, p = V1.heap.size := ⟨_, rfl⟩
     rw [<- hp] at xp6 hlep6 ⊢
     clear hp
     have hS := HKS.out _ hb
     refine hK _ _ hS ?_
     clear hK
     try simp only [Act.put, zq1, zq2, zq3, zq4, zq5, zq6]
     refine anyX_g (i := 2) (by kernel_rfl) (by decide) rfl (by rfl) ?_
     intro K hK
     try simp only [zq1, zq2, zq3]
     refine wp_enterE #[.agg #[.slice NA n nc], .slice GA m gc] Try.func50 (by kernel_rfl) (by kernel_rfl) ?_ (alike_any (g := g) (HNR.out.below hb) HL.out HT.out hn hk (HGR.out.below hb) HGL.out hm HGN.out HGO.out) ?_
     ·go_simp
     rintro e V3 ⟨ga, ca, gp, cp, go, co, gs, cs, TA, tn, tc, c, f, rfl, ho, hff, hpd, hbn⟩
     refine ⟨_, rfl, ?_⟩
     replace ho := ho.more hb.size
     replace xp5 := Blk.below xp5 hbn xp5.lt
     replace xp6 := Blk.below xp6 hbn xp6.lt
     replace hb := hb.trans (hbn.mono hb.size)
     clear hbn
     have hS := HKS.out _ hb
     refine hK _ _ hS ?_
     clear hK
     try simp only [Act.put, zq1, zq2, zq3, zq4, zq5, zq6]
     refine anyX_g (i := 4) (by kernel_rfl) (by decide) rfl (by rfl) ?_
     intro K hK
     try simp only [zq1, zq2, zq3]
     refine wp_enterE #[.agg #[.slice NA n nc]] Try.func48 (by kernel_rfl) (by kernel_rfl) ?_ (size_any NA n nc V3) ?_
     ·go_simp
     rintro e V4 ⟨rfl, hbn⟩
     refine ⟨_, rfl, ?_⟩
     replace xp5 := Blk.below xp5 hbn xp5.lt
     replace xp6 := Blk.below xp6 hbn xp6.lt
     replace ho := ho.below_top hbn
     replace hb := hb.trans (hbn.mono hb.size)
     clear hbn
     have hS := HKS.out _ hb
     refine hK _ _ hS ?_
     clear hK
     try simp only [Act.put, zq1, zq2, zq3, zq4, zq5, zq6]
     refine anyX_g (i := 5) (by kernel_rfl) (by decide) rfl (by rfl) ?_
     intro K hK
     try simp only [zq1, zq2, zq3]
     refine wp_enterE #[.int .i64 (n : Int)] Try.func51 (by kernel_rfl) (by kernel_rfl) ?_ (noneOf_any n hn V4) ?_
     ·go_simp
     rintro e V5 ⟨gn, rfl, hgn2, ho2, hbn⟩
     refine ⟨_, rfl, ?_⟩
     replace ho2 := ho2.more hb.size
     have hne : go ≠ gn := by have q := (ho.lt go rfl).2; intro e; subst e; omega
     clear hgn2
     replace xp5 := Blk.below xp5 hbn xp5.lt
     replace xp6 := Blk.below xp6 hbn xp6.lt
     replace ho := ho.below_top hbn
     replace hb := hb.trans (hbn.mono hb.size)
     clear hbn
     have hS := HKS.out _ hb
     refine hK _ _ hS ?_
     clear hK
     try simp only [Act.put, zq1, zq2, zq3, zq4, zq5, zq6]
     refine tkx (i := 6) (v := ?_) hS ?_ ?_ (hQ := by exact ends_panic _ _ (fun _ _ _ h => h))
     rotate_left
     ·rintro w' _
      go_simp
      try with_reducible rfl
     try simp only [Act.put, zq1, zq2, zq3, zq4, zq5, zq6]
     have hlf := HLF ⟨p5, p6, ga, ca, gp, cp, go, co, gs, cs, TA, tn, tc, c, f, gn⟩ _ ⟨⟨hb, ho, ho2, hne, hff, hpd, hlep5, hlep6⟩, xp5, xp6, hS⟩
     dsimp only at hlf
     simp only [Act.put, zq1, zq2, zq3, zq4, zq5, zq6] at hlf
     exact hlf
   ·intro K hK
    try simp only [zq1, zq2, zq3]
    go_simp
    obtain ⟨V1, eV⟩ : ∃ W', V0.alloc (.cells #[.slice none 0 0, .slice none 0 0, .slice none 0 0] 61) = W' := ⟨_, rfl⟩
    have hbn : Below V0.heap.size V0 V1 := by rw [<- eV]; exact (Below.refl _ _).alloc (Nat.le_refl _) _
    have xp6 : Blk V1 V0.heap.size 61 #[.slice none 0 0, .slice none 0 0, .slice none 0 0] := by rw [<- eV]; exact Blk.new _ _ _
    have hlep6 := hb.size
    rw [eV]
    clear eV
    replace hb := hb.trans (hbn.mono hb.size)
    clear hbn
    obtain ⟨p6, hp⟩ : ∃ p, p = V0.heap.size := ⟨_, rfl⟩
    rw [<- hp] at xp6 hlep6 ⊢
    clear hp
    have hS := HKS.out _ hb
    refine hK _ _ hS ?_
    clear hK
    try simp only [Act.put, zq1, zq2, zq3, zq4, zq5, zq6]
    refine anyX_2 (i := 2) (j := 7) (by kernel_rfl) (by decide) (by decide) rfl rfl rfl rfl ?_ ?_
    ·intro K hK
     try simp only [zq1, zq2, zq3]
     refine wp_enterE #[.agg #[.slice NA n nc], .slice GA m gc] Try.func50 (by kernel_rfl) (by kernel_rfl) ?_ (alike_any (g := g) (HNR.out.below hb) HL.out HT.out hn hk (HGR.out.below hb) HGL.out hm HGN.out HGO.out) ?_
     ·go_simp
     rintro e V2 ⟨ga, ca, gp, cp, go, co, gs, cs, TA, tn, tc, c, f, rfl, ho, hff, hpd, hbn⟩
     refine ⟨_, rfl, ?_⟩
     replace ho := ho.more hb.size
     replace xp6 := Blk.below xp6 hbn xp6.lt
     replace hb := hb.trans (hbn.mono hb.size)
     clear hbn
     have hS := HKS.out _ hb
     refine hK _ _ hS ?_
     clear hK
     try simp only [Act.put, zq1, zq2, zq3, zq4, zq5, zq6]
     refine anyX_2 (i := 4) (j := 7) (by kernel_rfl) (by decide) (by decide) rfl rfl rfl rfl ?_ ?_
     ·intro K hK
      try simp only [zq1, zq2, zq3]
      refine wp_enterE #[.agg #[.slice NA n nc]] Try.func48 (by kernel_rfl) (by kernel_rfl) ?_ (size_any NA n nc V2) ?_
      ·go_simp
      rintro e V3 ⟨rfl, hbn⟩
      refine ⟨_, rfl, ?_⟩
      replace xp6 := Blk.below xp6 hbn xp6.lt
      replace ho := ho.below_top hbn
      replace hb := hb.trans (hbn.mono hb.size)
      clear hbn
      have hS := HKS.out _ hb
      refine hK _ _ hS ?_
      clear hK
      try simp only [Act.put, zq1, zq2, zq3, zq4, zq5, zq6]
      refine anyX_2 (i := 5) (j := 7) (by kernel_rfl) (by decide) (by decide) rfl rfl rfl rfl ?_ ?_
      ·intro K hK
       try simp only [zq1, zq2, zq3]
       refine wp_enterE #[.int .i64 (n : Int)] Try.func51 (by kernel_rfl) (by kernel_rfl) ?_ (noneOf_any n hn V3) ?_
       ·go_simp
       rintro e V4 ⟨gn, rfl, hgn2, ho2, hbn⟩
       refine ⟨_, rfl, ?_⟩
       replace ho2 := ho2.more hb.size
       have hne : go ≠ gn := by have q := (ho.lt go rfl).2; intro e; subst e; omega
       clear hgn2
       replace xp6 := Blk.below xp6 hbn xp6.lt
       replace ho := ho.below_top hbn
       replace hb := hb.trans (hbn.mono hb.size)
       clear hbn
       have hS := HKS.out _ hb
       refine hK _ _ hS ?_
       clear hK
       try simp only [Act.put, zq1, zq2, zq3, zq4, zq5, zq6]
       refine tkx (i := 6) (v := ?_) hS ?_ ?_ (hQ := by exact ends_panic _ _ (fun _ _ _ h => h))
       rotate_left
       ·rintro w' _
        go_simp
        try with_reducible rfl
       try simp only [Act.put, zq1, zq2, zq3, zq4, zq5, zq6]
       refine anyX_g (i := 7) (by kernel_rfl) (by decide) rfl (by rfl) ?_
       intro K hK
       try simp only [zq1, zq2, zq3]
       go_simp
       obtain ⟨V5, eV⟩ : ∃ W', V4.alloc (.cells #[.slice none 0 0, .slice none 0 0, .slice none 0 0, .slice none 0 0, .slice none 0 0] 87) = W' := ⟨_, rfl⟩
       have hbn : Below V4.heap.size V4 V5 := by rw [<- eV]; exact (Below.refl _ _).alloc (Nat.le_refl _) _
       have xp5 : Blk V5 V4.heap.size 87 #[.slice none 0 0, .slice none 0 0, .slice none 0 0, .slice none 0 0, .slice none 0 0] := by rw [<- eV]; exact Blk.new _ _ _
       have hlep5 := hb.size
       rw [eV]
       clear eV
       replace xp6 := Blk.below xp6 hbn xp6.lt
       replace ho := ho.below_top hbn
       replace ho2 := ho2.below_top hbn
       replace hb := hb.trans (hbn.mono hb.size)
       clear hbn
       obtain ⟨p5, hp⟩ : ∃ p, p = V4.heap.size := ⟨_, rfl⟩
       rw [<- hp] at xp5 hlep5 ⊢
       clear hp
       have hS := HKS.out _ hb
       refine hK _ _ hS ?_
       clear hK
       try simp only [Act.put, zq1, zq2, zq3, zq4, zq5, zq6]
       have hlf := HLF ⟨p5, p6, ga, ca, gp, cp, go, co, gs, cs, TA, tn, tc, c, f, gn⟩ _ ⟨⟨hb, ho, ho2, hne, hff, hpd, hlep5, hlep6⟩, xp5, xp6, hS⟩
       dsimp only at hlf
       simp only [Act.put, zq1, zq2, zq3, zq4, zq5, zq6] at hlf
       exact hlf
      ·intro K hK
       try simp only [zq1, zq2, zq3]
       go_simp
       obtain ⟨V4, eV⟩ : ∃ W', V3.alloc (.cells #[.slice none 0 0, .slice none 0 0, .slice none 0 0, .slice none 0 0, .slice none 0 0] 87) = W' := ⟨_, rfl⟩
       have hbn : Below V3.heap.size V3 V4 := by rw [<- eV]; exact (Below.refl _ _).alloc (Nat.le_refl _) _
       have xp5 : Blk V4 V3.heap.size 87 #[.slice none 0 0, .slice none 0 0, .slice none 0 0, .slice none 0 0, .slice none 0 0] := by rw [<- eV]; exact Blk.new _ _ _
       have hlep5 := hb.size
       rw [eV]
       clear eV
       replace xp6 := Blk.below xp6 hbn xp6.lt
       replace ho := ho.below_top hbn
       replace hb := hb.trans (hbn.mono hb.size)
       clear hbn
       obtain ⟨p5, hp⟩ : ∃ p, p = V3.heap.size := ⟨_, rfl⟩
       rw [<- hp] at xp5 hlep5 ⊢
       clear hp
       have hS := HKS.out _ hb
       refine hK _ _ hS ?_
       clear hK
       try simp only [Act.put, zq1, zq2, zq3, zq4, zq5, zq6]
       refine anyX_g (i := 5) (by kernel_rfl) (by decide) rfl (by rfl) ?_
       intro K hK
       try simp only [zq1, zq2, zq3]
       refine wp_enterE #[.int .i64 (n : Int)] Try.func51 (by kernel_rfl) (by kernel_rfl) ?_ (noneOf_any n hn V4) ?_
       ·go_simp
       rintro e V5 ⟨gn, rfl, hgn2, ho2, hbn⟩
       refine ⟨_, rfl, ?_⟩
       replace ho2 := ho2.more hb.size
       have hne : go ≠ gn := by have q := (ho.lt go rfl).2; intro e; subst e; omega
       clear hgn2
       replace xp6 := Blk.below xp6 hbn xp6.lt
       replace ho := ho.below_top hbn
       replace xp5 := Blk.below xp5 hbn xp5.lt
       replace hb := hb.trans (hbn.mono hb.size)
       clear hbn
       have hS := HKS.out _ hb
       refine hK _ _ hS ?_
       clear hK
       try simp only [Act.put, zq1, zq2, zq3, zq4, zq5, zq6]
       refine tkx (i := 6) (v := ?_) hS ?_ ?_ (hQ := by exact ends_panic _ _ (fun _ _ _ h => h))
       rotate_left
       ·rintro w' _
        go_simp
        try with_reducible rfl
       try simp only [Act.put, zq1, zq2, zq3, zq4, zq5, zq6]
       have hlf := HLF ⟨p5, p6, ga, ca, gp, cp, go, co, gs, cs, TA, tn, tc, c, f, gn⟩ _ ⟨⟨hb, ho, ho2, hne, hff, hpd, hlep5, hlep6⟩, xp5, xp6, hS⟩
       dsimp only at hlf
       simp only [Act.put, zq1, zq2, zq3, zq4, zq5, zq6] at hlf
       exact hlf
     ·intro K hK
      try simp only [zq1, zq2, zq3]
      go_simp
      obtain ⟨V3, eV⟩ : ∃ W', V2.alloc (.cells #[.slice none 0 0, .slice none 0 0, .slice none 0 0, .slice none 0 0, .slice none 0 0] 87) = W' := ⟨_, rfl⟩
      have hbn : Below V2.heap.size V2 V3 := by rw [<- eV]; exact (Below.refl _ _).alloc (Nat.le_refl _) _
      have xp5 : Blk V3 V2.heap.size 87 #[.slice none 0 0, .slice none 0 0, .slice none 0 0, .slice none 0 0, .slice none 0 0] := by rw [<- eV]; exact Blk.new _ _ _
      have hlep5 := hb.size
      rw [eV]
      clear eV
      replace xp6 := Blk.below xp6 hbn xp6.lt
      replace ho := ho.below_top hbn
      replace hb := hb.trans (hbn.mono hb.size)
      clear hbn
      obtain ⟨p5, hp⟩ : ∃ p, p = V2.heap.size := ⟨_, rfl⟩
      rw [<- hp] at xp5 hlep5 ⊢
      clear hp
      have hS := HKS.out _ hb
      refine hK _ _ hS ?_
      clear hK
      try simp only [Act.put, zq1, zq2, zq3, zq4, zq5, zq6]
      refine anyX_g (i := 4) (by kernel_rfl) (by decide) rfl (by rfl) ?_
      intro K hK
      try simp only [zq1, zq2, zq3]
      refine wp_enterE #[.agg #[.slice NA n nc]] Try.func48 (by kernel_rfl) (by kernel_rfl) ?_ (size_any NA n nc V3) ?_
      ·go_simp
      rintro e V4 ⟨rfl, hbn⟩
      refine ⟨_, rfl, ?_⟩
      replace xp6 := Blk.below xp6 hbn xp6.lt
      replace ho := ho.below_top hbn
      replace xp5 := Blk.below xp5 hbn xp5.lt
      replace hb := hb.trans (hbn.mono hb.size)
      clear hbn
      have hS := HKS.out _ hb
      refine hK _ _ hS ?_
      clear hK
      try simp only [Act.put, zq1, zq2, zq3, zq4, zq5, zq6]
      refine anyX_g (i := 5) (by kernel_rfl) (by decide) rfl (by rfl) ?_
      intro K hK
      try simp only [zq1, zq2, zq3]
      refine wp_enterE #[.int .i64 (n : Int)] Try.func51 (by kernel_rfl) (by kernel_rfl) ?_ (noneOf_any n hn V4) ?_
      ·go_simp
      rintro e V5 ⟨gn, rfl, hgn2, ho2, hbn⟩
      refine ⟨_, rfl, ?_⟩
      replace ho2 := ho2.more hb.size
      have hne : go ≠ gn := by have q := (ho.lt go rfl).2; intro e; subst e; omega
      clear hgn2
      replace xp6 := Blk.below xp6 hbn xp6.lt
      replace ho := ho.below_top hbn
      replace xp5 := Blk.below xp5 hbn xp5.lt
      replace hb := hb.trans (hbn.mono hb.size)
      clear hbn
      have hS := HKS.out _ hb
      refine hK _ _ hS ?_
      clear hK
      try simp only [Act.put, zq1, zq2, zq3, zq4, zq5, zq6]
      refine tkx (i := 6) (v := ?_) hS ?_ ?_ (hQ := by exact ends_panic _ _ (fun _ _ _ h => h))
      rotate_left
      ·rintro w' _
       go_simp
       try with_reducible rfl
      try simp only [Act.put, zq1, zq2, zq3, zq4, zq5, zq6]
      have hlf := HLF ⟨p5, p6, ga, ca, gp, cp, go, co, gs, cs, TA, tn, tc, c, f, gn⟩ _ ⟨⟨hb, ho, ho2, hne, hff, hpd, hlep5, hlep6⟩, xp5, xp6, hS⟩
      dsimp only at hlf
      simp only [Act.put, zq1, zq2, zq3, zq4, zq5, zq6] at hlf
      exact hlf
    ·intro K hK
     try simp only [zq1, zq2, zq3]
     go_simp
     obtain ⟨V2, eV⟩ : ∃ W', V1.alloc (.cells #[.slice none 0 0, .slice none 0 0, .slice none 0 0, .slice none 0 0, .slice none 0 0] 87) = W' := ⟨_, rfl⟩
     have hbn : Below V1.heap.size V1 V2 := by rw [<- eV]; exact (Below.refl _ _).alloc (Nat.le_refl _) _
     have xp5 : Blk V2 V1.heap.size 87 #[.slice none 0 0, .slice none 0 0, .slice none 0 0, .slice none 0 0, .slice none 0 0] := by rw [<- eV]; exact Blk.new _ _ _
     have hlep5 := hb.size
     rw [eV]
     clear eV
     replace xp6 := Blk.below xp6 hbn xp6.lt
     replace hb := hb.trans (hbn.mono hb.size)
     clear hbn
     obtain ⟨p5, hp⟩ : ∃ p, p = V1.heap.size := ⟨_, rfl⟩
     rw [<- hp] at xp5 hlep5 ⊢
     clear hp
     have hS := HKS.out _ hb
     refine hK _ _ hS ?_
     clear hK
     try simp only [Act.put, zq1, zq2, zq3, zq4, zq5, zq6]
     refine anyX_g (i := 2) (by kernel_rfl) (by decide) rfl (by rfl) ?_
     intro K hK
     try simp only [zq1, zq2, zq3]
     refine wp_enterE #[.agg #[.slice NA n nc], .slice GA m gc] Try.func50 (by kernel_rfl) (by kernel_rfl) ?_ (alike_any (g := g) (HNR.out.below hb) HL.out HT.out hn hk (HGR.out.below hb) HGL.out hm HGN.out HGO.out) ?_
     ·go_simp
     rintro e V3 ⟨ga, ca, gp, cp, go, co, gs, cs, TA, tn, tc, c, f, rfl, ho, hff, hpd, hbn⟩
     refine ⟨_, rfl, ?_⟩
     replace ho := ho.more hb.size
     replace xp6 := Blk.below xp6 hbn xp6.lt
     replace xp5 := Blk.below xp5 hbn xp5.lt
     replace hb := hb.trans (hbn.mono hb.size)
     clear hbn
     have hS := HKS.out _ hb
     refine hK _ _ hS ?_
     clear hK
     try simp only [Act.put, zq1, zq2, zq3, zq4, zq5, zq6]
     refine anyX_g (i := 4) (by kernel_rfl) (by decide) rfl (by rfl) ?_
     intro K hK
     try simp only [zq1, zq2, zq3]
     refine wp_enterE #[.agg #[.slice NA n nc]] Try.func48 (by kernel_rfl) (by kernel_rfl) ?_ (size_any NA n nc V3) ?_
     ·go_simp
     rintro e V4 ⟨rfl, hbn⟩
     refine ⟨_, rfl, ?_⟩
     replace xp6 := Blk.below xp6 hbn xp6.lt
     replace xp5 := Blk.below xp5 hbn xp5.lt
     replace ho := ho.below_top hbn
     replace hb := hb.trans (hbn.mono hb.size)
     clear hbn
     have hS := HKS.out _ hb
     refine hK _ _ hS ?_
     clear hK
     try simp only [Act.put, zq1, zq2, zq3, zq4, zq5, zq6]
     refine anyX_g (i := 5) (by kernel_rfl) (by decide) rfl (by rfl) ?_
     intro K hK
     try simp only [zq1, zq2, zq3]
     refine wp_enterE #[.int .i64 (n : Int)] Try.func51 (by kernel_rfl) (by kernel_rfl) ?_ (noneOf_any n hn V4) ?_
     ·go_simp
     rintro e V5 ⟨gn, rfl, hgn2, ho2, hbn⟩
     refine ⟨_, rfl, ?_⟩
     replace ho2 := ho2.more hb.size
     have hne : go ≠ gn := by have q := (ho.lt go rfl).2; intro e; subst e; omega
     clear hgn2
     replace xp6 := Blk.below xp6 hbn xp6.lt
     replace xp5 := Blk.below xp5 hbn xp5.lt
     replace ho := ho.below_top hbn
     replace hb := hb.trans (hbn.mono hb.size)
     clear hbn
     have hS := HKS.out _ hb
     refine hK _ _ hS ?_
     clear hK
     try simp only [Act.put, zq1, zq2, zq3, zq4, zq5, zq6]
     refine tkx (i := 6) (v := ?_) hS ?_ ?_ (hQ := by exact ends_panic _ _ (fun _ _ _ h => h))
     rotate_left
     ·rintro w' _
      go_simp
      try with_reducible rfl
     try simp only [Act.put, zq1, zq2, zq3, zq4, zq5, zq6]
     have hlf := HLF ⟨p5, p6, ga, ca, gp, cp, go, co, gs, cs, TA, tn, tc, c, f, gn⟩ _ ⟨⟨hb, ho, ho2, hne, hff, hpd, hlep5, hlep6⟩, xp5, xp6, hS⟩
     dsimp only at hlf
     simp only [Act.put, zq1, zq2, zq3, zq4, zq5, zq6] at hlf
     exact hlf
  ·rintro ⟨p5, p6, ga, ca, gp, cp, go, co, gs, cs, TA, tn, tc, c, f, gn⟩ w1 ⟨⟨h1, h2, h3, h4, h5, h6, h7, h8⟩, h9, h10⟩
   dsimp only at h1 h2 h3 h4 h5 h6 h7 h8 h9 h10 ⊢
   try simp only [Act.put, zq1, zq2, zq3, zq4, zq5, zq6]
   have hzB := HZ0.out
   have hNB := HNB.out
   have hcn := h6.count_le
   have hEF : EqvN (EF f) := EF.eqv f
   have hSF : StepN T k (EF f) := EF.step HT.out (by rw [HL.out]; exact h5)
   have hflt : ∀ x, x < n -> f x < c := h6.lt
   have hcnt := pcount_blk (.inr ⟨gs, h9⟩)
   have hnw := newOrder_any c (by omega) w1
   have HCNT := Lib.hid hcnt; have HNW := Lib.hid hnw
   have HK1 := Lib.hid h1; have HKO := Lib.hid h2; have HKN := Lib.hid h3; have HNE := Lib.hid h4; have HFF := Lib.hid h5; have HX5 := Lib.hid h9; have HX6 := Lib.hid h10; have HL7 := Lib.hid h7; have HL8 := Lib.hid h8; have HFL := Lib.hid hflt; have HCN := Lib.hid hcn
   have HEF := Lib.hid hEF; have HSF := Lib.hid hSF
   have h56 : ¬ p5 = p6 := blk_ne2 h9 h10 (by decide)
   clear h1 h2 h3 h4 h5 h6 h7 h8 h9 h10 hcnt hnw hflt hEF hSF HKS hNB hzB
   go_wp2_with fail
   refine HCNT.out.mono ?_
   rintro e w2 ⟨rfl, rfl⟩
   go_wp2_with fail
   refine HNW.out.mono ?_
   rintro e w3 ⟨go3, rfl, hg3, ho3, hb3⟩
   obtain ⟨w4, hw4⟩ : ∃ w4, w3.alloc (.cells #[.slice none 0 0, sl go3 c c] 91) = w4 := ⟨_, rfl⟩
   have hb4 : Below w3.heap.size w3 w4 := by rw [<- hw4]; exact (Below.refl _ _).alloc (Nat.le_refl _) _
   obtain ⟨bo, hbo⟩ : ∃ bo, bo = w3.heap.size := ⟨_, rfl⟩
   have hx4 : Blk w4 bo 91 #[.slice none 0 0, sl go3 c c] := by rw [<- hw4, hbo]; exact Blk.new _ _ _
   obtain ⟨B, hB⟩ : ∃ B, B = W0.heap.size := ⟨_, rfl⟩
   have hzB := HZ0.out
   have hs1 := HK1.out.size; have hs3 := hb3.size
   have hglt := (ho3.lt go3 rfl).2
   have hord : OrdAt w4 B bo (.slice none 0 0) go3 c [] := ⟨hx4, Own.nil _ _, (ho3.below_top hb4).more (by omega), fun e => by omega, by simp [Value.ownBlock], by simp [Value.ownBlock], by omega⟩
   have hb14 : Below w1.heap.size w1 w4 := hb3.trans (hb4.mono hs3)
   have hre := reached_any (h := (HNR.out.below ((HK1.out.trans (hb14.mono hs1)))) ) HL.out HT.out hn
   -- where all lies that the loops turn
   have hgo1 := (HKO.out.lt go rfl).2
   have hgn1 := (HKN.out.lt gn rfl).2
   have hp51 := HX5.out.lt
   have hp61 := HX6.out.lt
   have hbo1 : bo < w4.heap.size := hx4.lt
   have hl4 := hb14.size
   have e1 : ¬ go = go3 := by omega
   have e2 : ¬ go = bo := by omega
   have e3 : ¬ gn = go3 := by omega
   have e4 : ¬ gn = bo := by omega
   have e5 : ¬ p5 = go3 := by omega
   have e6 : ¬ p5 = bo := by omega
   have e7 : ¬ p6 = go3 := by omega
   have e8 : ¬ p6 = bo := by omega
   have e9 : ¬ p5 = gn := fun e => blk_ne HX5.out HKN.out (by decide) (by rw [e]; rfl)
   have e10 : ¬ p6 = gn := fun e => blk_ne HX6.out HKN.out (by decide) (by rw [e]; rfl)
   have e11 : ¬ p6 = go := fun e => blk_ne HX6.out HKO.out (by decide) (by rw [e]; rfl)
   have e12 : ¬ p5 = go := fun e => blk_ne HX5.out HKO.out (by decide) (by rw [e]; rfl)
   have hW04 : Below W0.heap.size W0 w4 := HK1.out.trans (hb14.mono hs1)
   have k0 := (Blk.below HX0.out hW04 HX0.out.lt).cell 0
   simp only [List.getElem?_toArray, List.getElem?_cons_zero] at k0
   rw [<- hw4] at k0
   have HW04 := Lib.hid hW04
   have HOO := Lib.hid (show W0.heap.size <= bo /\ W0.heap.size <= go3 /\ True from ⟨by omega, by omega, trivial⟩)
   have HORD := Lib.hid hord; have HB14 := Lib.hid hb14; have HRE := Lib.hid hre; have HW4 := Lib.hid hw4; have HBE := Lib.hid hB; have HBO := Lib.hid hbo
   have hBz : B <= w1.heap.size := by omega
   have hl34 : w4.heap.size = w3.heap.size + 1 := by rw [<- hw4]; simp
   have HL4 := Lib.hid (show go < w4.heap.size /\ gn < w4.heap.size /\ p5 < w4.heap.size /\ p6 < w4.heap.size /\ bo < w4.heap.size /\ go3 < w4.heap.size from ⟨by omega, by omega, by omega, by omega, by omega, by omega⟩)
   clear hord hb14 hre hb4 hx4 ho3 hb3 hg3 hs1 hs3 hglt hB hw4 hgo1 hgn1 hp51 hp61 hbo1 hl4 hl34 hW04 hzB HCNT HNW
   go_wp2_with fail
   rw [HW4.out, <- hbo]
   clear hbo HW4
   refine HRE.out.mono ?_
   rintro e w9 ⟨rv, rfl, hor, hb9⟩
   obtain ⟨ml, hml⟩ : ∃ ml, (metN T).length = ml := ⟨_, rfl⟩
   rw [hml] at hor
   obtain ⟨RA, rc, hrv, hrc, hrc2, -⟩ := hor.readsI.form
   subst hrv
   have hmn : ml <= n := by rw [<- hml, <- HL.out]; exact bfs_len HT.out EqvN.eq _
   have hor9 := HORD.out.bel hb9
   have hb19 : Below w1.heap.size w1 w9 := HB14.out.trans (hb9.mono HB14.out.size)
   -- what the first loop keeps
   have hX6 := Blk.below HX6.out hb19 HX6.out.lt
   have hst0 : FwAt w9 w9 B p6 bo go3 gn n c f T (.slice none 0 0) (.slice none 0 0) 0 := by
    refine ⟨?_, Own.nil _ _, ?_, ?_, .inl rfl, fun q hq => by simp [Value.ownBlock] at hq, fun q hq => by simp [Value.ownBlock] at hq, Fr.refl _ _⟩
    ·simpa [fiL, onceN] using hX6
    ·rw [naF_zero]
     exact (HKN.out.below_top hb19).more (Nat.le_of_eq HBE.out)
    ·simpa [fiL, onceN] using hor9
   have HST := Lib.hid hst0; have HML := Lib.hid hml; have HOR := Lib.hid hor; have HB19 := Lib.hid hb19; have HB9 := Lib.hid hb9
   have HKO9 := Lib.hid (HKO.out.below_top hb19); have HX59 := Lib.hid (Blk.below HX5.out hb19 HX5.out.lt)
   clear hst0 hor hb19 hml hX6 hor9 hb9 HRE HORD
   have hlo : FwLo w9 p6 bo go3 gn := by
    obtain ⟨q1, q2, q3, q4, q5, q6⟩ := HL4.out
    have := HB9.out.size
    exact ⟨by omega, by omega, by omega, by omega, e8, e7, e10, e4, e3⟩
   have hgo9 : go < w9.heap.size /\ p5 < w9.heap.size := by
    obtain ⟨q1, q2, q3, q4, q5, q6⟩ := HL4.out
    have := HB9.out.size
    exact ⟨by omega, by omega⟩
   have HLO := Lib.hid hlo; have HGO9 := Lib.hid hgo9
   have hrvlo : ∀ q, (Value.slice RA ml rc).ownBlock = some q -> q ≠ p6 /\ q ≠ gn /\ q ≠ bo /\ q ≠ go3 := fun q hq => by
    have := (HOR.out.lt q hq).1
    obtain ⟨q1, q2, q3, q4, q5, q6⟩ := HL4.out
    exact ⟨by omega, by omega, by omega, by omega⟩
   have HRV := Lib.hid hrvlo
   clear hlo hgo9 hrvlo
   go_wp2_with fail
   go_loopw [24] (fun vj wr => ∃ j : Nat, vj = .int .i64 (j : Int) /\ j <= ml /\ Hid (∃ vf mv, FwAt w9 wr B p6 bo go3 gn n c f T vf mv j)) (fun vj _ => ml - (intOf vj).toNat)
   case atStart => exact ⟨0, rfl, Nat.zero_le _, Lib.hid ⟨_, _, HST.out⟩⟩
   case round =>
    clear HST
    obtain ⟨j, rfl, hj, HJ⟩ := hrel
    obtain ⟨vf, mv, hfw⟩ := HJ.out
    have j0 : (0 : Int) <= (j : Int) := Int.natCast_nonneg _
    by_cases hlt : j < ml
    ·have j1 : (j : Int) < (ml : Int) := by omega
     have tj : decide (j < ml) = true := by simpa using hlt
     have hjl : j < (metN T).length := by rw [HML.out]; exact hlt
     obtain ⟨s, hs⟩ : ∃ s, (metN T)[j]'hjl = s := ⟨_, rfl⟩
     have hsm : (metN T)[j]? = some s := by rw [List.getElem?_eq_getElem hjl, hs]
     have hsn : s < n := by rw [<- HL.out]; exact bfs_lt HT.out _ s (List.mem_of_getElem? hsm)
     have hor9 := hfw.fr_.own HOR.out (fun q hq hx => by
      obtain ⟨r1, r2, r3, r4⟩ := HRV.out q hq
      rcases hx with e | e | e | e
      ·exact r1 e
      ·exact r2 e
      ·exact r3 e
      ·exact r4 e)
     obtain ⟨gm, om, hRA, -, cm⟩ := hor9.readsI.at j hlt
     subst hRA
     have ce : (intsN (metN T)).getD j 0 = (s : Int) := by simp [intsN, List.getD, List.getElem?_eq_getElem hjl, hs]
     rw [ce] at cm
     have hfs := HFL.out s hsn
     have hnum := number_any hfw.ord.drewO hfs (by omega) (by rw [List.length_map]; have := fiL_len T (EF f) j; have := HML.out; omega) (Nat.le_trans (Nat.le_of_eq HBE.out) (by have := HK1.out.size; have := HB19.out.size; have := hfw.fr_.size; show _ <= wr.heap.size; omega))
     have HNUM := Lib.hid hnum; have HFW := Lib.hid hfw; have HSM := Lib.hid hsm; have HSN := Lib.hid hsn
     have HKS : Hid (∀ W : World, Fr (OrdX bo go3 mv) wr W -> W.cell? ⟨p6, 2, none⟩ = some (sl gn n n) /\ W.cell? ⟨p5, 2, none⟩ = some (sl go n co) /\ W.cell? ⟨go, s, none⟩ = some (.int .i64 (f s : Int))) := Lib.hid (fun W hW => by
      have nX : ∀ q, q < w9.heap.size -> q ≠ bo -> q ≠ go3 -> ¬ OrdX bo go3 mv q := fun q hq n1 n2 hx => by
       rcases hx with e | e | e
       ·exact n1 e
       ·exact n2 e
       ·have := HFW.out.hmv q e; omega
      have k6 := (hW.blk HFW.out.box (nX p6 HLO.out.p e8 e7)).cell 2
      have k5 := (hW.blk (HFW.out.fr_.blk HX59.out (fun hx => by
       rcases hx with e | e | e | e
       ·exact h56 e
       ·exact e9 e
       ·exact e6 e
       ·exact e5 e)) (nX p5 HGO9.out.2 e6 e5)).cell 2
      have ko := hW.own (HFW.out.fr_.own HKO9.out (fun q hq hx => by
       have e0 : go = q := by simpa [Value.ownBlock] using hq
       subst e0
       rcases hx with e | e | e | e
       ·exact e11 e.symm
       ·exact HNE.out e
       ·exact e2 e
       ·exact e1 e)) (fun q hq hx => by
       have e0 : go = q := by simpa [Value.ownBlock] using hq
       subst e0
       exact nX go HGO9.out.1 e2 e1 hx)
      exact ⟨by simpa using k6, by simpa using k5, ko.cellAt hsn⟩)
     have hco := (HKO9.out.capN).1; have hco2 := (HKO9.out.capN).2.1
     unfold maxLen at hco2
     have s0 : (0 : Int) <= (s : Int) := Int.natCast_nonneg _
     have s1 : (s : Int) < (n : Int) := by omega
     have ts : decide (s < n) = true := by simpa using hsn
     clear hfw HJ hnum hor9 hs hsm ce hfs
     obtain ⟨q, hq⟩ : ∃ q, f s = q := ⟨_, rfl⟩
     rw [hq] at HNUM HKS
     have HQ := Lib.hid hq
     clear hq
     go_wp2_with fail
     refine region_x 10 (fun w' : World => w'.cell? ⟨p6, 2, none⟩ = some (sl gn n n) /\ w'.cell? ⟨p5, 2, none⟩ = some (sl go n co) /\ w'.cell? ⟨go, s, none⟩ = some (.int .i64 (q : Int))) (by kernel_rfl) ?_
     have hS := HKS.out _ ((Fr.refl (OrdX bo go3 mv) wr).drew)
     refine tkx (i := 0) (v := ?_) hS ?_ ?_
     rotate_left
     ·rintro w' ⟨s0', s1', s2'⟩
      go_simp
      try with_reducible rfl
     try simp only [Act.put, zq1, zq2, zq3, zq4, zq5, zq6]
     refine tkx (i := 1) (v := ?_) hS ?_ ?_
     rotate_left
     ·rintro w' ⟨s0', s1', s2'⟩
      go_simp
      try with_reducible rfl
     try simp only [Act.put, zq1, zq2, zq3, zq4, zq5, zq6]
     refine tkx (i := 2) (v := ?_) hS ?_ ?_
     rotate_left
     ·rintro w' ⟨s0', s1', s2'⟩
      go_simp
      try with_reducible rfl
     try simp only [Act.put, zq1, zq2, zq3, zq4, zq5, zq6]
     refine tkx (i := 3) (v := ?_) hS ?_ ?_
     rotate_left
     ·rintro w' ⟨s0', s1', s2'⟩
      go_simp
      try with_reducible rfl
     try simp only [Act.put, zq1, zq2, zq3, zq4, zq5, zq6]
     refine tkx (i := 4) (v := ?_) hS ?_ ?_
     rotate_left
     ·rintro w' ⟨s0', s1', s2'⟩
      go_simp
      try with_reducible rfl
     try simp only [Act.put, zq1, zq2, zq3, zq4, zq5, zq6]
     refine tkx (i := 5) (v := ?_) hS ?_ ?_
     rotate_left
     ·rintro w' ⟨s0', s1', s2'⟩
      go_simp
      try with_reducible rfl
     try simp only [Act.put, zq1, zq2, zq3, zq4, zq5, zq6]
     refine tkx (i := 6) (v := ?_) hS ?_ ?_
     rotate_left
     ·rintro w' ⟨s0', s1', s2'⟩
      go_simp
      try with_reducible rfl
     try simp only [Act.put, zq1, zq2, zq3, zq4, zq5, zq6]
     refine tkx (i := 7) (v := ?_) hS ?_ ?_
     rotate_left
     ·rintro w' ⟨s0', s1', s2'⟩
      go_simp
      try with_reducible rfl
     try simp only [Act.put, zq1, zq2, zq3, zq4, zq5, zq6]
     refine anyX_g (i := 8) (by kernel_rfl) (by decide) rfl (by rfl) ?_
     intro K hK
     try simp only [zq1, zq2, zq3]
     refine wp_enterE #[.pointer (some ⟨bo, 0, none⟩), .int .i64 (q : Int)] Try.func55 (by kernel_rfl) (by kernel_rfl) ?_ HNUM.out ?_
     ·go_simp
     rintro e V1 ⟨rfl, mv1, ho1, hf1, hm1⟩
     refine ⟨_, rfl, ?_⟩
     have hf1' : Fr (OrdX bo go3 mv) wr V1 := (Fr.drew (Fr.refl _ wr)).trans hf1
     have hS1 := HKS.out _ hf1'
     have hmd := HFW.out.num HLO.out HT.out HSF.out HSM.out (by rw [HQ.out]; exact ho1) hf1' hm1
     rw [HQ.out] at hmd
     have HMD := Lib.hid hmd
     have na1 := hf1'.own HFW.out.na (fun q' hq' hx => by
      have e0 : gn = q' := by simpa [Value.ownBlock] using hq'
      subst e0
      rcases hx with e | e | e
      ·exact e4 e
      ·exact e3 e
      ·have := HFW.out.hmv _ e; have := HLO.out.n; omega)
     have cn1 := cell_of_own na1 HSN.out
     have cf1 := na1.frozen s
     clear ho1 hf1 hm1 hf1' hmd na1
     refine hK _ _ hS1 ?_
     clear hK
     try simp only [Act.put, zq1, zq2, zq3, zq4, zq5, zq6]
     refine anyX_g (i := 9) (by kernel_rfl) (by decide) rfl (by rfl) ?_
     intro K hK
     try simp only [zq1, zq2, zq3]
     skip
     go_simp
     refine hK _ _ hS1 ?_
     clear hK
     try simp only [Act.put, zq1, zq2, zq3, zq4, zq5, zq6]
     refine anyX_last (by kernel_rfl) (by kernel_rfl) rfl rfl ?_
     try simp only [zq1, zq2, zq3]
     go_simp
     try apply_assumption
     obtain ⟨W7, hW7⟩ : ∃ W7, V1.setCell ⟨gn, s, none⟩ (.int .i64 ((metL ((fiL T (EF f) j).map f) q).idxOf q : Nat)) = W7 := ⟨_, rfl⟩
     have hmd := HMD.out
     rw [hW7] at hmd ⊢
     clear hW7 HMD HNUM hS hS1 cn1 cf1 cm
     obtain ⟨FA, fc, hvf, hfc, hfc2, -⟩ := hmd.fi.readsI.form
     subst hvf
     have hnas := cell_of_own hmd.na HSN.out
     rw [rowZ_get _ HSN.out, naF_succ HSM.out s, if_pos rfl] at hnas
     have k1 := hmd.box.cell 1; have k2 := hmd.box.cell 2
     simp only [List.getElem?_toArray, List.getElem?_cons_zero, List.getElem?_cons_succ] at k1 k2
     have hfll := fiL_len T (EF f) j
     rw [HML.out] at hfll
     have hnew := add_new HEF.out (fiL T (EF f) j) s
     rw [num_met HT.out HEF.out HSF.out HSM.out] at hnew
     have hsu := fiL_succ (E := EF f) HSM.out
     have HMD := Lib.hid hmd; have HSU := Lib.hid hsu
     clear hmd hsu
     obtain ⟨fl, hfl⟩ : ∃ fl, (fiL T (EF f) j).length = fl := ⟨_, rfl⟩
     obtain ⟨ix, hix⟩ : ∃ ix, ixN (EF f) (repN T (EF f)) s = ix := ⟨_, rfl⟩
     rw [hfl] at k1 hfc hnew hfll
     rw [hix] at hnas hnew
     have HFLN := Lib.hid hfl
     clear hfl hix HFW
     rcases hnew with ⟨n1, n2⟩ | ⟨n1, n2⟩
     ·subst n1
      have HN2 := Lib.hid n2
      clear n2
      go_wp2_with fail
      go_quiet (fail)
      obtain ⟨W8, hW8⟩ : ∃ W8, W7.drewN nq = W8 := ⟨_, rfl⟩
      have hm8 := HMD.out.bel ((Fr.refl (fun _ => False) W7).drewN nq)
      rw [hW8] at hm8 ⊢
      clear hW8 k1 k2 hnas
      have k1 := hm8.box.cell 1; have k2 := hm8.box.cell 2
      simp only [List.getElem?_toArray, List.getElem?_cons_zero, List.getElem?_cons_succ] at k1 k2
      have hfi := hm8.fi
      rw [HFLN.out] at k1 hfi
      have hbs : w9.heap.size <= W8.heap.size := hm8.fr_.size
      have hf9 : ix <= 1000000000 := by omega
      have HM8 := Lib.hid hm8; have HFI := Lib.hid hfi
      have HNV : Hid (∀ q, q < w9.heap.size -> ¬ (Value.slice FA ix fc).ownBlock = some q) := Lib.hid (fun q hq e => by
       have h1 := hm8.hvf
       rw [HFLN.out] at h1
       have := h1 q e; omega)
      clear hm8 hfi
      go_wp2_with (at_builtin; refine wpList_push rfl (.tmp 48) (.tmp 50) rfl w9.heap.size W8 (.slice FA ix fc) ix (intsN (fiL T (EF f) j)) (s : Int) (by rfl) HFI.out (by rfl) hf9 hbs ?_; intro g9 cap9 wA hpA; have HP := Lib.hid hpA; clear hpA; have hxA := Blk.grown (Blk.alloc HM8.out.box (.cells #[.int .i64 (s : Int)] 3)) (by have := HP.out.grow; rw [<- HFLN.out] at this; exact this) (fun e => by have h1 := HNV.out p6 HLO.out.p; rw [<- HFLN.out] at h1; exact h1 e.symm); have a1 := hxA.cell 1; have af := hxA.frozen 1; simp only [List.getElem?_toArray, List.getElem?_cons_zero, List.getElem?_cons_succ] at a1; rw [HFLN.out] at a1; clear hxA)
      refine ⟨⟨j + 1, by go_num, by omega, Lib.hid ⟨sl g9 (ix + 1) cap9, mv1, ?_⟩⟩, by simp [intOf]; omega⟩
      exact HM8.out.new_ HLO.out (by rw [HSU.out]; exact HN2.out) HFLN.out (by have := HP.out; rw [<- HFLN.out] at this ⊢; exact this)
     ·have n3 : ¬ (ix : Int) = (fl : Int) := by omega
      have n4 : ¬ ix = fl := by omega
      have HN2 := Lib.hid n2
      clear n2
      go_wp2_with fail
      go_quiet (fail)
      obtain ⟨W8, hW8⟩ : ∃ W8, W7.drewN nq = W8 := ⟨_, rfl⟩
      have hm8 := HMD.out.bel ((Fr.refl (fun _ => False) W7).drewN nq)
      rw [hW8] at hm8 ⊢
      have HM8 := Lib.hid hm8
      clear hW8 k1 k2 hnas hm8
      go_wp2_with fail
      exact ⟨⟨j + 1, by go_num, by omega, Lib.hid ⟨_, _, HM8.out.old (by rw [HSU.out]; exact HN2.out)⟩⟩, by simp [intOf]; omega⟩
    ·have HJM : Hid (j = ml) := Lib.hid (by omega)
     have hre1 : fiL T (EF f) j = repN T (EF f) := by rw [HJM.out, <- HML.out]; exact fiL_all HT.out HEF.out HSF.out
     have hna1 : rowZ n (naF T (EF f) j) = rowZ n (nameN T (EF f)) := by
      rw [HJM.out, <- HML.out]
      exact rowZ_congr (fun x _ => naF_all x)
     have hbox := hfw.box; have hfi := hfw.fi; have hna := hfw.na
     rw [hre1] at hfi
     rw [hna1] at hna
     have hsz9 := hfw.fr_.size
     have hW0r : Below W0.heap.size W0 wr := (HK1.out.trans (HB19.out.mono HK1.out.size)).trans (hfw.fr_.below (by have := HK1.out.size; have := HB19.out.size; omega) (fun q hq hx => by
      have q7 := HL7.out; have q8 := HL8.out; have q9 := (HKN.out.lt gn rfl).1; have q10 := HBO.out
      have q11 := HK1.out.size
      obtain ⟨r1, r2, r3⟩ := HOO.out
      rcases hx with e | e | e | e <;> omega))
     obtain ⟨FA, fc, hvf, hfc, hfc2, -⟩ := hfi.readsI.form
     subst hvf
     obtain ⟨rl, hrl⟩ : ∃ rl, (repN T (EF f)).length = rl := ⟨_, rfl⟩
     rw [hrl] at hfi hfc hbox
     have hrln : rl <= n := by rw [<- hrl, <- HL.out]; exact bfs_len HT.out HEF.out _
     have hvfp : ∀ q, (Value.slice FA rl fc).ownBlock = some q -> ¬ q = p6 := fun q hq e => by
      have := (hfi.lt q hq).1; have := HLO.out.p; omega
     obtain ⟨wB, hwB⟩ : ∃ wB, wB = wr := ⟨_, rfl⟩
     subst hwB
     have hp6B := hbox.lt
     have hS20 : Hid (∃ vn, Blk wB p6 61 #[vn, .slice FA rl fc, sl gn n n] /\ OwnLL wB wB.heap.size 22 3 1 vn 0 (xssN (rowsN T (EF f) ((repN T (EF f)).take 0))) /\ Fr (fun q => q = p6) wB wB) := Lib.hid ⟨_, hbox, by simpa [rowsN, xssN] using OwnLL.nil _ _ _ _ _, Fr.refl _ _⟩
     have k1 := hbox.cell 1
     simp only [List.getElem?_toArray, List.getElem?_cons_zero, List.getElem?_cons_succ] at k1
     have HBOX := Lib.hid hbox; have HFI := Lib.hid hfi; have HNA := Lib.hid hna; have HWB := Lib.hid hW0r; have HRL := Lib.hid hrl; have HVFP := Lib.hid hvfp
     clear hfw HJ hbox hfi hna hW0r hrl hre1 hna1 hvfp
     go_wp2_with fail
     clear k1
     go_loopw [57] (fun vi wr => ∃ i : Nat, vi = .int .i64 (i : Int) /\ i <= rl /\ Hid (∃ vn, Blk wr p6 61 #[vn, .slice FA rl fc, sl gn n n] /\ OwnLL wr wB.heap.size 22 3 1 vn i (xssN (rowsN T (EF f) ((repN T (EF f)).take i))) /\ Fr (fun q => q = p6) wB wr)) (fun vi _ => rl - (intOf vi).toNat)
     case atStart => exact ⟨0, rfl, Nat.zero_le _, hS20⟩
     case round =>
      clear hS20
      obtain ⟨i, rfl, hi, HI⟩ := hrel
      obtain ⟨vn, hbx, hll, hfr⟩ := HI.out
      have i0 : (0 : Int) <= (i : Int) := Int.natCast_nonneg _
      have hsz := hfr.size
      have hWr : Below W0.heap.size W0 wr := HWB.out.trans (hfr.below HWB.out.size (fun q hq e => by have := HL8.out; omega))
      by_cases hli : i < rl
      ·have i1 : (i : Int) < (rl : Int) := by omega
       have ti : decide (i < rl) = true := by simpa using hli
       have hil : i < (repN T (EF f)).length := by rw [HRL.out]; exact hli
       obtain ⟨s, hs⟩ : ∃ s, (repN T (EF f))[i]'hil = s := ⟨_, rfl⟩
       have hsn : s < T.length := bfs_lt HT.out _ s (by rw [<- hs]; exact List.getElem_mem _)
       have hsn2 : s < n := by rw [<- HL.out]; exact hsn
       have hfi2 := hfr.own HFI.out HVFP.out
       obtain ⟨gv, ov, hFA, -, cv⟩ := hfi2.readsI.at i hli
       subst hFA
       have ce : (intsN (repN T (EF f))).getD i 0 = (s : Int) := by simp [intsN, List.getD, List.getElem?_eq_getElem hil, hs]
       rw [ce] at cv
       obtain ⟨gb, goff, A1, m1, c1, hA1, hm1, d1, r1, r2, r3⟩ := (HNR.out.below hWr).at_ (i := s) hsn
       subst hA1
       have hm1k : m1 <= 1000 := by rw [hm1, HT.out.len s hsn]; exact hk
       have hna2 := hfr.own HNA.out (fun q hq e => e10 (by
        have : gn = q := by simpa [Value.ownBlock] using hq
        rw [this, e]))
       obtain ⟨vals, hvals, hpush⟩ := hll.pushK
       have hvnlo : ∀ q, vn.ownBlock = some q -> wB.heap.size <= q /\ q < wr.heap.size := hll.lt
       have hgbl := World.block_lt_of_cell? wr _ d1
       have hnbl : nb < wB.heap.size := by have := HWB.out.size; omega
       have hxnb := Blk.below HX0.out hWr HX0.out.lt
       have hd1B : gb < wB.heap.size := by
        obtain ⟨gb', goff', A2, m2, c2, hA2, -, d2, -, -, -⟩ := (HNR.out.below HWB.out).at_ (i := s) hsn
        simp only [Option.some.injEq, Addr.mk.injEq, and_true] at hA2
        obtain ⟨rfl, rfl⟩ := hA2
        exact World.block_lt_of_cell? wB _ d2
       obtain ⟨wq, hwq⟩ : ∃ wq, wq = wr := ⟨_, rfl⟩
       have HKS : Hid (∀ W : World, Fr (fun q => vn.ownBlock = some q) wr W -> W.cell? ⟨p6, 0, none⟩ = some vn /\ W.cell? ⟨p6, 1, none⟩ = some (.slice (some ⟨gv, ov, none⟩) rl fc) /\ W.cell? ⟨p6, 2, none⟩ = some (sl gn n n) /\ W.cell? ⟨nb, 0, none⟩ = some (.slice (some ⟨gb, goff, none⟩) n nc) /\ W.cell? ⟨gb, goff + s, none⟩ = some (.slice A1 m1 c1)) := Lib.hid (fun W hW => by
        have nv : ∀ q, q < wB.heap.size -> ¬ vn.ownBlock = some q := fun q hq e => by have := (hvnlo q e).1; omega
        have hx := hW.blk hbx (nv p6 hp6B)
        have a0 := hx.cell 0; have a1 := hx.cell 1; have a2 := hx.cell 2
        have b0 := (hW.blk hxnb (nv nb hnbl)).cell 0
        have b1 := hW.cell d1 (nv gb hd1B)
        exact ⟨by simpa using a0, by simpa using a1, by simpa using a2, by simpa using b0, b1⟩)
       have HSS := Lib.hid (fun x (hx : x ∈ T.getD s []) => (show x < n from by obtain ⟨a, ha, rfl⟩ := row_mem HT.out hsn hx; rw [<- HL.out]; exact HT.out.lt s a hsn ha))
       have HREN : Hid (∀ V, Below wr.heap.size wr V -> Calls Try.prog 56 #[.agg #[vn, .slice (some ⟨gv, ov, none⟩) rl fc, sl gn n n], .slice A1 m1 c1] V fun e w' => ∃ g, e = .returned (sl g m1 m1) /\ Own w' V.heap.size (sl g m1 m1) m1 ((T.getD s []).map (nameN T (EF f))) /\ Below V.heap.size V w') := Lib.hid (fun V hV => by
        obtain ⟨Xn, xnn, xnc, rfl⟩ := hll.formS
        exact renamed_any (hna2.below_top hV) (r1.below hV) HSS.out hn hm1k)
       have hi6 : i <= 1000000 := by omega
       have hBwr : wB.heap.size <= wr.heap.size := hsz
       have HLL := Lib.hid hll; have HVL := Lib.hid hvals; have HPU := Lib.hid hpush; have HBX := Lib.hid hbx; have HFR := Lib.hid hfr; have HVLO := Lib.hid hvnlo; have HS : Hid ((repN T (EF f))[i]? = some s) := Lib.hid (by rw [List.getElem?_eq_getElem hil, hs]); have HM1 := Lib.hid hm1
       have s0 : (0 : Int) <= (s : Int) := Int.natCast_nonneg _
       have s1 : (s : Int) < (n : Int) := by omega
       have ts : decide (s < n) = true := by simpa using hsn2
       clear hll hvals hpush hbx hfr hvnlo hs hm1 hil hfi2 ce r1 hna2 hxnb HI hgbl hwq d1
       go_wp2_with fail
       refine region_x 12 (fun w' : World => w'.cell? ⟨p6, 0, none⟩ = some vn /\ w'.cell? ⟨p6, 1, none⟩ = some (.slice (some ⟨gv, ov, none⟩) rl fc) /\ w'.cell? ⟨p6, 2, none⟩ = some (sl gn n n) /\ w'.cell? ⟨nb, 0, none⟩ = some (.slice (some ⟨gb, goff, none⟩) n nc) /\ w'.cell? ⟨gb, goff + s, none⟩ = some (.slice A1 m1 c1)) (by kernel_rfl) ?_
       have hF0 : Fr (fun q => vn.ownBlock = some q) wr wr.drew := (Fr.refl _ wr).drew
       have hB0 : Below wr.heap.size wr wr.drew := (Below.refl _ _).drew
       have hS := HKS.out _ hF0
       have hV0 := HVL.out.drew
       generalize wr.drew = V0 at *
       refine tkx (i := 0) (v := ?_) hS ?_ ?_
       rotate_left
       ·rintro w' ⟨t0', t1', t2', t3', t4'⟩
        go_simp
        try with_reducible rfl
       try simp only [Act.put, zq1, zq2, zq3, zq4, zq5, zq6]
       refine tkx (i := 1) (v := ?_) hS ?_ ?_
       rotate_left
       ·rintro w' ⟨t0', t1', t2', t3', t4'⟩
        go_simp
        try with_reducible rfl
       try simp only [Act.put, zq1, zq2, zq3, zq4, zq5, zq6]
       refine tkx (i := 2) (v := ?_) hS ?_ ?_
       rotate_left
       ·rintro w' ⟨t0', t1', t2', t3', t4'⟩
        go_simp
        try with_reducible rfl
       try simp only [Act.put, zq1, zq2, zq3, zq4, zq5, zq6]
       refine tkx (i := 3) (v := ?_) hS ?_ ?_
       rotate_left
       ·rintro w' ⟨t0', t1', t2', t3', t4'⟩
        go_simp
        try with_reducible rfl
       try simp only [Act.put, zq1, zq2, zq3, zq4, zq5, zq6]
       refine tkx (i := 4) (v := ?_) hS ?_ ?_
       rotate_left
       ·rintro w' ⟨t0', t1', t2', t3', t4'⟩
        go_simp
        try with_reducible rfl
       try simp only [Act.put, zq1, zq2, zq3, zq4, zq5, zq6]
       refine tkx (i := 5) (v := ?_) hS ?_ ?_
       rotate_left
       ·rintro w' ⟨t0', t1', t2', t3', t4'⟩
        go_simp
        try with_reducible rfl
       try simp only [Act.put, zq1, zq2, zq3, zq4, zq5, zq6]
       refine tkx (i := 6) (v := ?_) hS ?_ ?_
       rotate_left
       ·rintro w' ⟨t0', t1', t2', t3', t4'⟩
        go_simp
        try with_reducible rfl
       try simp only [Act.put, zq1, zq2, zq3, zq4, zq5, zq6]
       refine tkx (i := 7) (v := ?_) hS ?_ ?_
       rotate_left
       ·rintro w' ⟨t0', t1', t2', t3', t4'⟩
        go_simp
        try with_reducible rfl
       try simp only [Act.put, zq1, zq2, zq3, zq4, zq5, zq6]
       refine anyX_g (i := 8) (by kernel_rfl) (by decide) rfl (by rfl) ?_
       intro K hK
       try simp only [zq1, zq2, zq3]
       refine wp_enterE #[.agg #[vn, .slice (some ⟨gv, ov, none⟩) rl fc, sl gn n n], .slice A1 m1 c1] Try.func56 (by kernel_rfl) (by kernel_rfl) ?_ (HREN.out V0 hB0) ?_
       ·go_simp
       rintro e V1 ⟨gr, rfl, hor1, hb1⟩
       refine ⟨_, rfl, ?_⟩
       have hB1 := hB0.trans (hb1.mono hB0.size)
       have hF1 := hF0.trans (Fr.of_below hb1)
       have hS1 := HKS.out _ hF1
       have hV1 := ownsRow_bel hV0 hb1
       have hlt0 := hB0.size
       clear hb1
       refine hK _ _ hS1 ?_
       clear hK
       try simp only [Act.put, zq1, zq2, zq3, zq4, zq5, zq6]
       refine anyX_g (i := 9) (by kernel_rfl) (by decide) rfl (by rfl) ?_
       intro K hK
       try simp only [zq1, zq2, zq3]
       go_simp
       obtain ⟨V2, eV⟩ : ∃ W', V1.alloc (.cells #[sl gr m1 m1] 22) = W' := ⟨_, rfl⟩
       have hb2 : Below V1.heap.size V1 V2 := by rw [<- eV]; exact (Below.refl _ _).alloc (Nat.le_refl _) _
       have xb : Blk V2 V1.heap.size 22 #[sl gr m1 m1] := by rw [<- eV]; exact Blk.new _ _ _
       rw [eV]
       clear eV
       have hB2 := hB1.trans (hb2.mono hB1.size)
       have hF2 := hF1.trans (Fr.of_below hb2)
       have hS2 := HKS.out _ hF2
       have hV2 := ownsRow_bel hV1 hb2
       have hor2 := hor1.below_top hb2
       obtain ⟨pb, hp⟩ : ∃ p, p = V1.heap.size := ⟨_, rfl⟩
       rw [<- hp] at xb ⊢
       clear hb2 hp
       refine hK _ _ hS2 ?_
       clear hK
       try simp only [Act.put, zq1, zq2, zq3, zq4, zq5, zq6]
       refine anyX_g (i := 10) (by kernel_rfl) (by decide) rfl (by rfl) ?_
       intro K hK
       try simp only [zq1, zq2, zq3]
       refine wp_pushK rfl (.tmp 62) (.tmp 70) 24 22 rfl 1 24 _ Try.underlying24 info_row rfl (by omega) (by omega) wB.heap.size _ _ _ (by rfl) hV2 pb (by rfl) #[sl gr m1 m1] rfl xb (by simp [Value.oneCell']) hi6 (Nat.le_trans hBwr hB2.size) ?_
       intro g9 cap9 V3 q1 q2 q3
       have hap : Apart vn (sl gr m1 m1) := by
        cases hv : vn.ownBlock with
        | none => exact .inl hv
        | some q =>
          refine .inr (.inr (fun r => ?_))
          have r1 : q = gr := by rw [hv] at r; simpa [Value.ownBlock] using r
          have h1 := (HVLO.out q hv).2
          have h2 := (hor1.lt gr rfl).1
          omega
       have hLL3 := HPU.out V2 V3 g9 cap9 _ _ _ hB2 q1 q2 q3 (ownsRow_more hor2 (Nat.le_trans hBwr hlt0)) hap
       have hF3 := hF2.trans (Fr.of_grown (X := fun q => vn.ownBlock = some q) q2 (fun q hq => hq))
       have hS3 := HKS.out _ hF3
       have HLL3 := Lib.hid hLL3; have HF3 := Lib.hid hF3
       have hx3 := hF3.blk HBX.out (fun e => by have := (HVLO.out _ e).1; omega)
       have k0 := hx3.cell 0; have kf := hx3.frozen 0
       simp only [List.getElem?_toArray, List.getElem?_cons_zero] at k0
       have HX3 := Lib.hid hx3
       have hg9 : wB.heap.size <= g9 := by
        rcases q3 with e | e
        ·exact (HVLO.out _ e).1
        ·have := hB2.size; omega
       clear q1 q2 q3 hLL3 hF3 hx3 hap
       refine hK _ _ hS3 ?_
       clear hK
       try simp only [Act.put, zq1, zq2, zq3, zq4, zq5, zq6]
       refine anyX_g (i := 11) (by kernel_rfl) (by decide) rfl (by rfl) ?_
       intro K hK
       try simp only [zq1, zq2, zq3]
       go_simp
       refine hK _ _ hS3 ?_
       clear hK
       try simp only [Act.put, zq1, zq2, zq3, zq4, zq5, zq6]
       refine anyX_last (by kernel_rfl) (by kernel_rfl) rfl rfl ?_
       try simp only [zq1, zq2, zq3]
       go_simp
       try apply_assumption
       clear k0 kf
       go_wp2_with fail
       have htk : (repN T (EF f)).take (i + 1) = (repN T (EF f)).take i ++ [s] := by rw [List.take_add_one, HS.out]; rfl
       refine ⟨⟨i + 1, by go_num, by omega, Lib.hid ⟨sl g9 (i + 1) cap9, ?_, ?_, ?_⟩⟩, by simp [intOf]; omega⟩
       ·have := HX3.out.set_ 0 (sl g9 (i + 1) cap9)
        simpa using this
       ·have h1 := HLL3.out.fr (Fr.set_ (X := fun q => q = p6) (Fr.refl _ V3) (p := ⟨p6, 0, none⟩) (.inl rfl) (sl g9 (i + 1) cap9)) (fun q hq e => by omega)
        have e1 : xssN (rowsN T (EF f) ((repN T (EF f)).take (i + 1))) = xssN (rowsN T (EF f) ((repN T (EF f)).take i)) ++ [(m1, ((T.getD s []).map (nameN T (EF f))).map (Value.int .i64))] := by
         rw [htk]
         simp [xssN, rowsN, HM1.out]
        rw [e1]
        exact h1
       ·exact (HFR.out.then_ HF3.out (fun q hq e => by have := (HVLO.out q e).1; omega)).set_ (p := ⟨p6, 0, none⟩) (.inl rfl) _
      ·have HIM : Hid (i = rl) := Lib.hid (by omega)
       obtain ⟨Xn, xnn, xnc, hvn⟩ := hll.formS
       subst hvn
       have a0 := hbx.cell 0; have a1 := hbx.cell 1; have a2 := hbx.cell 2
       have hxr := Blk.below HX1.out hWr (by have := HZ0.out; have := HNB.out; omega)
       have r0 := Blk.cell hxr 0; have r1 := Blk.cell hxr 1; have r2 := Blk.cell hxr 2
       have fr0 := Blk.frozen hxr 0; have fr1 := Blk.frozen hxr 1; have fr2 := Blk.frozen hxr 2
       simp only [List.getElem?_toArray, List.getElem?_cons_zero, List.getElem?_cons_succ] at r0 r1 r2 a0 a1 a2
       have hBL := HB0.out.trans (hWr.mono HB0.out.size)
       have hfi2 := hfr.own HFI.out HVFP.out
       have hna2 := hfr.own HNA.out (fun q hq e => e10 (by
        have : gn = q := by simpa [Value.ownBlock] using hq
        rw [this, e]))
       have e1 : (repN T (EF f)).take i = repN T (EF f) := List.take_of_length_le (by rw [HIM.out, HRL.out]; exact Nat.le_refl _)
       rw [e1] at hll
       have hZe := HZ0.out; have hNe := HNB.out
       have hw1 := HK1.out.size; have hw9 := HB19.out.size; have hBe := HBE.out; have hwB := HWB.out.size
       have hnb1 : w.heap.size <= nb + 1 := by omega
       have HLLF := Lib.hid hll; have HBLF := Lib.hid hBL; have HFIF := Lib.hid hfi2; have HNAF := Lib.hid hna2
       have hnbB : nb + 1 < wB.heap.size := by omega
       have hwwB : w.heap.size <= wB.heap.size := by omega
       have hww9 : w.heap.size <= w9.heap.size := by omega
       have hwwb : w.heap.size <= B := by omega
       have hnbw9 : nb + 1 < w9.heap.size := by omega
       have hgnn : gn ≠ nb + 1 := fun e => by have := (HKN.out.lt gn rfl).1; omega
       clear hbx hll hfr HI hxr hBL hfi2 hna2 e1 hZe hNe hw1 hw9 hBe hwB hWr
       go_wp2_with fail
       refine bodyPost_ret (v := .agg #[.slice Xn xnn xnc, .slice FA rl fc, sl gn n n]) (by simp [results, Try.results31, go_sem, r0, r1, r2]) rfl ?_
       have hfin : Fr (fun q => q = nb + 1) wr (((wr.setCell ⟨nb + 1, 0, none⟩ (.slice Xn xnn xnc)).setCell ⟨nb + 1, 1, none⟩ (.slice FA rl fc)).setCell ⟨nb + 1, 2, none⟩ (sl gn n n)) :=
        (((Fr.refl (fun q => q = nb + 1) wr).set_ (p := ⟨nb + 1, 0, none⟩) (.inl rfl) _).set_ (p := ⟨nb + 1, 1, none⟩) (.inl rfl) _).set_ (p := ⟨nb + 1, 2, none⟩) (.inl rfl) _
       refine ⟨_, _, gn, f, rfl, HFF.out, ?_, ?_, ?_, HBLF.out.trans (hfin.below HBLF.out.size (fun q hq e => by omega))⟩
       ·have h1 := (HLLF.out.fr hfin (fun q hq e => by omega)).more hwwB
        rw [HRL.out]
        rw [HIM.out] at h1
        exact h1
       ·have h1 := (hfin.own HFIF.out (fun q hq e => by have := (HFIF.out.lt q hq).1; omega)).more hww9
        rw [HRL.out]
        exact h1
       ·exact (hfin.own HNAF.out (fun q hq e => hgnn (by
         have : gn = q := by simpa [Value.ownBlock] using hq
         rw [this, e]))).more hwwb
end Go.Proofs.Ytdcokkgdahbinaa
