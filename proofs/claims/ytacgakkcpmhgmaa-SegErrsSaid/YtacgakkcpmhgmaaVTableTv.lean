/- What the reference's Load has read so far: in memory, and by numbers. The reference's Load. The law's summed: bytes with their sum behind them. What a loading tells, program's and reference's. A table in memory of which only the shape is known: what turns it leaves some table. -/
import Derived.Test.YtacgakkcpmhgmaaVTableTp
import Derived.Test.YtacgakkcpmhgmaaVMiniLe
import Derived.Test.YtacgakkcpmhgmaaVTableTa
import Derived.Test.YtacgakkcpmhgmaaVLastY
import Derived.Test.YtacgakkcpmhgmaaVTableH
import Derived.Test.YtacgakkcpmhgmaaVTableYi
set_option linter.unusedVariables false
set_option linter.unusedSimpArgs false
namespace Go.Proofs.Ytacgakkcpmhgmaa
open Go Go.RowKit Go.Proofs
def xssW (E : List (List V3)) : List (Nat × List Value) := E.map fun l => (l.length, l.flatMap encV)
theorem xssW_snoc (E : List (List V3)) (l : List V3) : xssW (E ++ [l]) = xssW E ++ [(l.length, l.flatMap encV)] := by simp [xssW]
theorem xssW_at (E : List (List V3)) {i : Nat} (h : i < E.length) : (xssW E).getD i (0, []) = ((E.getD i []).length, (E.getD i []).flatMap encV) := by
 simp [xssW, List.getD_eq_getElem?_getD, List.getElem?_eq_getElem h]
theorem xssI_at (T : List (List Int)) {i : Nat} (h : i < T.length) : (xssI T).getD i (0, []) = ((T.getD i []).length, (T.getD i []).map (Value.int .i64)) := by
 simp [xssI, List.getD_eq_getElem?_getD, List.getElem?_eq_getElem h]
theorem OwnLL.rowsI {w : World} {B k : Nat} {v : Value} {xss : List (Nat × List Value)} {T : List (List Int)} (h : OwnLL w B 22 3 1 v k xss) (hk : T.length = k) (hx : ∀ i, i < k -> xss.getD i (0, []) = ((T.getD i []).length, (T.getD i []).map (Value.int .i64))) : RowsI w v T := by
 subst hk
 obtain ⟨h1, vals, h2, h3⟩ := h
 have hl : vals.length = T.length := by have := h2.1; omega
 rcases h2.2 with ⟨e1, e0⟩ | ⟨g, cap, cur, e, _, _, q1, q2, _⟩
 ·have : T = [] := List.eq_nil_of_length_eq_zero e0
  subst this; subst e1
  exact ⟨none, 0, rfl, Nat.le_refl _, Nat.zero_le _, fun _ => rfl, fun i hi => absurd hi (by simp)⟩
 ·subst e
  refine ⟨_, cap, rfl, q1, q2, (fun e => by cases e), fun i hi => ⟨g, 0, vals.getD i undef, rfl, ?_, ?_⟩⟩
  ·rw [Nat.zero_add, World.ownsRow.cellAt h2 i (by omega)]
   simp [List.getD, List.getElem?_eq_getElem (show i < vals.length by omega)]
  ·have h4 := (h3 i hi).1
   rw [hx i hi] at h4
   exact Own.readsI h4
structure PTab (w : World) (B : Nat) (vc vl vbn vbo vfn vfe : Value) (t : Tab) : Prop where
 c : Own w B vc t.cuts.length t.cuts
 l : Own w B vl t.letters.length t.letters
 bn : OwnLL w B 22 3 1 vbn t.bn.length (xssI t.bn)
 bo : Own w B vbo t.bo.length t.bo
 fn : OwnLL w B 22 3 1 vfn t.fn.length (xssI t.fn)
 fe : OwnLL w B 36 51 3 vfe t.fe.length (xssW t.fe)
section
variable {w w' : World} {B : Nat} {vc vl vbn vbo vfn vfe : Value} {t : Tab}
theorem PTab.tabR (h : PTab w B vc vl vbn vbo vfn vfe t) : TabR w vc vl vbn vbo vfn vfe t :=
 ⟨h.c.readsI, h.l.readsI, h.bn.rowsI rfl (fun i hi => xssI_at _ hi), h.bo.readsI, h.fn.rowsI rfl (fun i hi => xssI_at _ hi), h.fe.emitR rfl (fun i hi => xssW_at _ hi)⟩
def FarT (w : World) (q : Nat) : Prop := ∃ t cs, Blk w q t cs /\ t ≠ 3 /\ t ≠ 22 /\ t ≠ 51 /\ t ≠ 36
theorem row_far {X : Nat -> Prop} {e : TypeId} {u : Value} {n sz : Nat} {xs : List Value} (h : w.ownsRow B e sz u n xs) (hf : Fr X w w') (hX : ∀ q, X q -> FarT w q) (he : e = 3 \/ e = 22 \/ e = 51 \/ e = 36) : w'.ownsRow B e sz u n xs :=
 rowFr h hf (fun q hq hx => by
  obtain ⟨t, cs, hb, h1, h2, h3, h4⟩ := hX q hx
  have hne : t ≠ e := by rcases he with rfl | rfl | rfl | rfl <;> assumption
  exact blk_ne hb h hne hq)
theorem ll_far {X : Nat -> Prop} {e e' : TypeId} {v : Value} {k sz : Nat} {xss : List (Nat × List Value)} (h : OwnLL w B e e' sz v k xss) (hf : Fr X w w') (hX : ∀ q, X q -> FarT w q) (he : e = 3 \/ e = 22 \/ e = 51 \/ e = 36) (he' : e' = 3 \/ e' = 22 \/ e' = 51 \/ e' = 36) : OwnLL w' B e e' sz v k xss := by
 obtain ⟨h3, vals, h4, h5⟩ := h
 exact ⟨h3, vals, row_far h4 hf hX he, fun i hi => ⟨row_far (h5 i hi).1 hf hX he', (h5 i hi).2⟩⟩
theorem PTab.far {X : Nat -> Prop} (h : PTab w B vc vl vbn vbo vfn vfe t) (hf : Fr X w w') (hX : ∀ q, X q -> FarT w q) : PTab w' B vc vl vbn vbo vfn vfe t :=
 ⟨row_far h.c hf hX (.inl rfl), row_far h.l hf hX (.inl rfl), ll_far h.bn hf hX (.inr (.inl rfl)) (.inl rfl), row_far h.bo hf hX (.inl rfl), ll_far h.fn hf hX (.inr (.inl rfl)) (.inl rfl), ll_far h.fe hf hX (.inr (.inr (.inr rfl))) (.inr (.inr (.inl rfl)))⟩
theorem PTab.below (h : PTab w B vc vl vbn vbo vfn vfe t) (hb : Below w.heap.size w w') : PTab w' B vc vl vbn vbo vfn vfe t :=
 h.far (X := fun _ => False) (Fr.of_below hb) (fun q e => e.elim)
theorem PTab.one {b : Nat} {ty : TypeId} {cs : Array Value} (h : PTab w B vc vl vbn vbo vfn vfe t) (hf : Fr (fun q => q = b) w w') (hx : Blk w b ty cs) (hty : ty ≠ 3 /\ ty ≠ 22 /\ ty ≠ 51 /\ ty ≠ 36) : PTab w' B vc vl vbn vbo vfn vfe t :=
 h.far hf (fun q e => by subst e; exact ⟨ty, cs, hx, hty⟩)
theorem PTab.nil (w : World) (B : Nat) : PTab w B (.slice none 0 0) (.slice none 0 0) (.slice none 0 0) (.slice none 0 0) (.slice none 0 0) (.slice none 0 0) ⟨[], [], [], [], [], []⟩ :=
 ⟨Own.nil _ _, Own.nil _ _, OwnLL.nil _ _ _ _ _, Own.nil _ _, OwnLL.nil _ _ _ _ _, OwnLL.nil _ _ _ _ _⟩
theorem PTab.grown {V : World} {E : List (List V3)} {v : Value} {n : Nat} {xs : List Value} (h : PTab w B vc vl vbn vbo vfn vfe t) (hg : w.grownBy V vfe.ownBlock) (hu : w.ownsRow B 36 1 vfe n xs) (he : OwnLL V B 36 51 3 v E.length (xssW E)) : PTab V B vc vl vbn vbo vfn v { t with fe := E } := by
 have key : ∀ {x : Value} {a b c : Nat} {ys : List Value}, w.ownsRow B a b x c ys -> a ≠ 36 -> V.ownsRow B a b x c ys := fun {x a b c ys} hr hne => World.ownsRow.kept hr hg (by
  cases hx : x.ownBlock with
  | none => exact .inl rfl
  | some z => exact .inr (fun q => rows_ne hr hu hne z hx q.symm))
 exact ⟨key h.c (by decide), key h.l (by decide), h.bn.keepG hg hu (by decide) (by decide), key h.bo (by decide), h.fn.keepG hg hu (by decide) (by decide), he⟩
end
theorem Own.anyB {w : World} {B B' n : Nat} {v : Value} {l : List Int} (h : Own w B v n l) (hB : B' <= B) : Own w B' v n l := ownsRow_any h hB
theorem BytesR.dropB {w : World} {g o n cap k : Nat} {l : List Int} (h : BytesR w (.slice (some ⟨g, o, none⟩) n cap) n l) (hk : k <= n) : BytesR w (.slice (some ⟨g, o + k, none⟩) (n - k) (cap - k)) (n - k) (l.drop k) := by
 obtain ⟨⟨h1, a, c, h2, h5, h6, h3, h4⟩, hb⟩ := h
 simp only [Value.slice.injEq, true_and] at h2
 obtain ⟨rfl, rfl⟩ := h2
 refine ⟨⟨by rw [List.length_drop, h1], some ⟨g, o + k, none⟩, cap - k, rfl, by omega, by omega, (fun e => by cases e), fun i x hi => ?_⟩, fun x hx => hb x (List.mem_of_mem_drop hx)⟩
 rw [List.getElem?_drop] at hi
 obtain ⟨g', off, e, hc⟩ := h4 (k + i) x hi
 simp only [Option.some.injEq, Addr.mk.injEq, and_true] at e
 obtain ⟨rfl, rfl⟩ := e
 refine ⟨g, o + k, rfl, fun j u hj => ?_⟩
 have := hc j u hj
 rw [show o + k + i * 1 + j = o + (k + i) * 1 + j by omega]
 exact this
section
variable {α : Type} {rd : List Int -> Option (α × List Int)} {rest r : Option (List Int)} {x : α}
theorem RdOut.some_ {L' : List Int} (h : RdOut rd rest x r) (hr : r = some L') : ∃ L, rest = some L /\ rd L = some (x, L') := by
 obtain ⟨h0, h1⟩ := h
 cases rest with
 | none => have := h0 rfl; rw [hr] at this; cases this
 | some L =>
   refine ⟨L, rfl, ?_⟩
   obtain ⟨a, b⟩ := h1 L rfl
   cases e : rd L with
   | none => have := b e; rw [hr] at this; cases this
   | some p =>
     obtain ⟨y, L2⟩ := p
     obtain ⟨rfl, e2⟩ := a y L2 e
     rw [hr] at e2
     cases e2
     rfl
theorem RdOut.none_ (h : RdOut rd rest x r) (hr : r = none) : rest = none \/ ∃ L, rest = some L /\ rd L = none := by
 obtain ⟨h0, h1⟩ := h
 cases rest with
 | none => exact .inl rfl
 | some L =>
   refine .inr ⟨L, rfl, ?_⟩
   obtain ⟨a, b⟩ := h1 L rfl
   cases e : rd L with
   | none => rfl
   | some p =>
     obtain ⟨y, L2⟩ := p
     obtain ⟨-, e2⟩ := a y L2 e
     rw [hr] at e2
     cases e2
end
theorem six_rd {L0 : List Int} {c l bo : List Int} {bn fn : List (List Int)} {fe : List (List V3)} {r1 r2 r3 r4 r5 r6 : Option (List Int)}
  (h1 : RdOut (rdC (some 100000) rdOne) (some L0) c r1) (h2 : RdOut (rdC (some 100000) rdOne) r1 l r2) (h3 : RdOut (rdC (some 100000) (rdC (some 100000) rdOne)) r2 bn r3) (h4 : RdOut (rdC (some 100000) rdOne) r3 bo r4) (h5 : RdOut (rdC (some 100000) (rdC (some 100000) rdOne)) r4 fn r5) (h6 : RdOut (rdC (some 100000) (rdC (some 100000) rdVec)) r5 fe r6) :
  (∀ L6, r6 = some L6 -> rdT (some 100000) L0 = some (⟨c, l, bn, bo, fn, fe⟩, L6)) /\ (r6 = none -> rdT (some 100000) L0 = none) := by
  constructor
  ·intro L6 e6
   obtain ⟨L5, e5, q6⟩ := h6.some_ e6
   obtain ⟨L4, e4, q5⟩ := h5.some_ e5
   obtain ⟨L3, e3, q4⟩ := h4.some_ e4
   obtain ⟨L2, e2, q3⟩ := h3.some_ e3
   obtain ⟨L1, e1, q2⟩ := h2.some_ e2
   obtain ⟨L, e0, q1⟩ := h1.some_ e1
   cases e0
   unfold rdT
   rw [q1]; simp only
   rw [q2]; simp only
   rw [q3]; simp only
   rw [q4]; simp only
   rw [q5]; simp only
   rw [q6]
  ·intro e6
   rcases h6.none_ e6 with e5 | ⟨L5, e5, q6⟩
   ·rcases h5.none_ e5 with e4 | ⟨L4, e4, q5⟩
    ·rcases h4.none_ e4 with e3 | ⟨L3, e3, q4⟩
     ·rcases h3.none_ e3 with e2 | ⟨L2, e2, q3⟩
      ·rcases h2.none_ e2 with e1 | ⟨L1, e1, q2⟩
       ·rcases h1.none_ e1 with e0 | ⟨L, e0, q1⟩
        ·cases e0
        ·cases e0
         unfold rdT
         rw [q1]
       ·obtain ⟨L, e0, q1⟩ := h1.some_ e1
        cases e0
        unfold rdT
        rw [q1]; simp only
        rw [q2]
      ·obtain ⟨L1, e1, q2⟩ := h2.some_ e2
       obtain ⟨L, e0, q1⟩ := h1.some_ e1
       cases e0
       unfold rdT
       rw [q1]; simp only
       rw [q2]; simp only
       rw [q3]
     ·obtain ⟨L2, e2, q3⟩ := h3.some_ e3
      obtain ⟨L1, e1, q2⟩ := h2.some_ e2
      obtain ⟨L, e0, q1⟩ := h1.some_ e1
      cases e0
      unfold rdT
      rw [q1]; simp only
      rw [q2]; simp only
      rw [q3]; simp only
      rw [q4]
    ·obtain ⟨L3, e3, q4⟩ := h4.some_ e4
     obtain ⟨L2, e2, q3⟩ := h3.some_ e3
     obtain ⟨L1, e1, q2⟩ := h2.some_ e2
     obtain ⟨L, e0, q1⟩ := h1.some_ e1
     cases e0
     unfold rdT
     rw [q1]; simp only
     rw [q2]; simp only
     rw [q3]; simp only
     rw [q4]; simp only
     rw [q5]
   ·obtain ⟨L4, e4, q5⟩ := h5.some_ e5
    obtain ⟨L3, e3, q4⟩ := h4.some_ e4
    obtain ⟨L2, e2, q3⟩ := h3.some_ e3
    obtain ⟨L1, e1, q2⟩ := h2.some_ e2
    obtain ⟨L, e0, q1⟩ := h1.some_ e1
    cases e0
    unfold rdT
    rw [q1]; simp only
    rw [q2]; simp only
    rw [q3]; simp only
    rw [q4]; simp only
    rw [q5]; simp only
    rw [q6]
def RLoadE (w' : World) (e : Ending) (bs : List Int) : Prop :=
 (∃ vc vl vbn vbo vfn vfe t, refP bs t /\ e = .returned (.tuple #[.agg #[vc, vl, vbn, vbo, vfn, vfe], .bool true]) /\ TabR w' vc vl vbn vbo vfn vfe t) \/
 ((∀ t, ¬ refP bs t) /\ e = .returned (.tuple #[.agg #[.slice none 0 0, .slice none 0 0, .slice none 0 0, .slice none 0 0, .slice none 0 0, .slice none 0 0], .bool false]))
end Go.Proofs.Ytacgakkcpmhgmaa
namespace Go.Proofs.Ytacgakkcpmhgmaa
open Go Go.RowKit Go.Proofs
theorem below_six {B b : Nat} {w w' : World} (h : Below B w w') (hb : B <= b) (v0 v1 v2 v3 v4 v5 : Value) : Below B w ((((((w'.setCell ⟨b, 0, none⟩ v0).setCell ⟨b, 1, none⟩ v1).setCell ⟨b, 2, none⟩ v2).setCell ⟨b, 3, none⟩ v3).setCell ⟨b, 4, none⟩ v4).setCell ⟨b, 5, none⟩ v5) :=
 (((((h.setCell (p := ⟨b, 0, none⟩) hb v0).setCell (p := ⟨b, 1, none⟩) hb v1).setCell (p := ⟨b, 2, none⟩) hb v2).setCell (p := ⟨b, 3, none⟩) hb v3).setCell (p := ⟨b, 4, none⟩) hb v4).setCell (p := ⟨b, 5, none⟩) hb v5
theorem fr_six (b : Nat) (w : World) (v0 v1 v2 v3 v4 v5 : Value) : Fr (fun q => q = b) w ((((((w.setCell ⟨b, 0, none⟩ v0).setCell ⟨b, 1, none⟩ v1).setCell ⟨b, 2, none⟩ v2).setCell ⟨b, 3, none⟩ v3).setCell ⟨b, 4, none⟩ v4).setCell ⟨b, 5, none⟩ v5) :=
 ((((((Fr.refl (fun q => q = b) w).set_ (p := ⟨b, 0, none⟩) (.inl rfl) v0).set_ (p := ⟨b, 1, none⟩) (.inl rfl) v1).set_ (p := ⟨b, 2, none⟩) (.inl rfl) v2).set_ (p := ⟨b, 3, none⟩) (.inl rfl) v3).set_ (p := ⟨b, 4, none⟩) (.inl rfl) v4).set_ (p := ⟨b, 5, none⟩) (.inl rfl) v5
theorem ref_left {bs : List Int} {m : Nat} {L6 : List Int} {T : Tab} {nr : Nat} {bs' : List Int} (hl : bs.length = m + 8) (h6 : rdT (some 100000) (numsB (bs.take m)) = some (T, L6)) (hn : bs'.length = nr) (h8 : bs'.length % 8 = m % 8) (hL : L6 = numsK (bs'.length / 8) bs') (hp : 0 < nr) : ∀ t, ¬ refP bs t := fun t e => by
 obtain ⟨-, -, e3, e4, -⟩ := e
 rw [hl, show m + 8 - 8 = m by omega] at e3 e4
 rw [h6] at e4
 simp only [Option.some.injEq, Prod.mk.injEq] at e4
 have := congrArg List.length e4.2
 rw [hL, numsK_len, List.length_nil] at this
 omega
theorem ref_none {bs : List Int} {m : Nat} (hl : bs.length = m + 8) (h6 : rdT (some 100000) (numsB (bs.take m)) = none) : ∀ t, ¬ refP bs t := fun t e => by
 obtain ⟨-, -, -, e4, -⟩ := e
 rw [hl, show m + 8 - 8 = m by omega, h6] at e4
 cases e4
theorem ref_wrong {bs : List Int} {m : Nat} {L6 : List Int} {T : Tab} (hl : bs.length = m + 8) (h6 : rdT (some 100000) (numsB (bs.take m)) = some (T, L6)) (hr : ¬ RightT T) : ∀ t, ¬ refP bs t := fun t e => by
 obtain ⟨-, -, -, e4, e5⟩ := e
 rw [hl, show m + 8 - 8 = m by omega, h6] at e4
 simp only [Option.some.injEq, Prod.mk.injEq] at e4
 exact hr (e4.1 ▸ e5)
theorem ref_there {bs : List Int} {m : Nat} {L6 : List Int} {T : Tab} {bs' : List Int} (hl : bs.length = m + 8) (hs : un8 (bs.drop m) = sumI (bs.take m)) (h6 : rdT (some 100000) (numsB (bs.take m)) = some (T, L6)) (h8 : bs'.length % 8 = m % 8) (hL : L6 = numsK (bs'.length / 8) bs') (h0 : bs'.length = 0) (hr : RightT T) : refP bs T := by
 refine ⟨by omega, ?_, ?_, ?_, hr⟩
 ·rw [hl, show m + 8 - 8 = m by omega]; exact hs
 ·rw [hl]; omega
 ·rw [hl, show m + 8 - 8 = m by omega, h6, hL, h0]
  rfl
end Go.Proofs.Ytacgakkcpmhgmaa
namespace Go.Proofs.Ytacgakkcpmhgmaa
open Go Go.RowKit Go.Proofs
theorem GrowB.last {w W : World} {B : Nat} {v u : Value} {M : List Int} {z y : Int} (h : GrowB w B v W u (M ++ [z])) (e : z = y) : GrowB w B v W u (M ++ [y]) := e ▸ h
end Go.Proofs.Ytacgakkcpmhgmaa
namespace Go.Proofs.Ytacgakkcpmhgmaa
open Go Go.RowKit Go.Proofs
def ToldP (bs : List Int) (b : Bool) (t : Tab) : Prop := (b = true /\ RightT t /\ bs = saveT t) \/ (b = false /\ t = noT /\ ∀ u, RightT u -> bs ≠ saveT u)
theorem ToldP.uniq {bs : List Int} {b b' : Bool} {t t' : Tab} (h : ToldP bs b t) (h' : ToldP bs b' t') : b' = b /\ t' = t := by
 rcases h with ⟨rfl, h1, h2⟩ | ⟨rfl, rfl, h2⟩ <;> rcases h' with ⟨rfl, h3, h4⟩ | ⟨rfl, rfl, h4⟩
 ·exact ⟨rfl, (saveT_inj h1 h3 (h2.symm.trans h4)).symm⟩
 ·exact absurd h2 (h4 t h1)
 ·exact absurd h4 (h2 t' h3)
 ·exact ⟨rfl, rfl⟩
theorem ToldP.ints {bs : List Int} {b : Bool} {t : Tab} (h : ToldP bs b t) : IntsT t := by
 rcases h with ⟨rfl, h1, h2⟩ | ⟨rfl, rfl, h2⟩
 ·exact h1.intsT
 ·exact noT_ints
theorem ToldP.len {bs : List Int} {b : Bool} {t : Tab} (h : ToldP bs b t) (hl : bs.length <= 8000000) : (enT t).length <= 1000000 := by
 rcases h with ⟨rfl, h1, h2⟩ | ⟨rfl, rfl, h2⟩
 ·rw [h2, saveT_len] at hl; omega
 ·decide
theorem ToldP.no {bs : List Int} {b : Bool} {t : Tab} (h : ToldP bs b t) (hl : ∀ u, bs ≠ saveT u) : b = false := by
 rcases h with ⟨rfl, h1, h2⟩ | ⟨rfl, rfl, h2⟩
 ·exact absurd h2 (hl t)
 ·rfl
theorem odd_not {l : List Int} (h : l.length % 8 ≠ 0) (u : Tab) : l ≠ saveT u := fun e => h (by rw [e, saveT_len]; omega)
def ToldE (w' : World) (e : Ending) (bs : List Int) : Prop := ∃ (A0 A1 A2 A3 A4 A5 : Option Addr) (n0 n1 n2 n3 n4 n5 c0 c1 c2 c3 c4 c5 : Nat) (b : Bool) (t : Tab), e = .returned (.tuple #[.agg #[.slice A0 n0 c0, .slice A1 n1 c1, .slice A2 n2 c2, .slice A3 n3 c3, .slice A4 n4 c4, .slice A5 n5 c5], .bool b]) /\ ToldP bs b t /\ TabR w' (.slice A0 n0 c0) (.slice A1 n1 c1) (.slice A2 n2 c2) (.slice A3 n3 c3) (.slice A4 n4 c4) (.slice A5 n5 c5) t
theorem toldE_of {w' : World} {e : Ending} {bs : List Int} {b : Bool} {vc vl vbn vbo vfn vfe : Value} {t : Tab} (he : e = .returned (.tuple #[.agg #[vc, vl, vbn, vbo, vfn, vfe], .bool b])) (h : ToldP bs b t) (ht : TabR w' vc vl vbn vbo vfn vfe t) : ToldE w' e bs := by
 obtain ⟨A0, c0, rfl, -⟩ := ht.c.form
 obtain ⟨A1, c1, rfl, -⟩ := ht.l.form
 obtain ⟨A2, c2, e2, -⟩ := ht.bn.form
 obtain ⟨A3, c3, rfl, -⟩ := ht.bo.form
 obtain ⟨A4, c4, e4, -⟩ := ht.fn.form
 obtain ⟨A5, c5, e5, -⟩ := ht.fe.form
 subst e2 e4 e5
 exact ⟨_, _, _, _, _, _, _, _, _, _, _, _, _, _, _, _, _, _, b, t, he, h, ht⟩
theorem LoadE.told {w w' : World} {e : Ending} {bs : List Int} (h : LoadE w w' e bs) (hb : ∀ x ∈ bs, ByteI x) : ToldE w' e bs := by
 rcases h with ⟨vc, vl, vbn, vbo, vfn, vfe, t, hp, he, -, ht⟩ | ⟨hn, he⟩
 ·have := (loadP_iff hb t).1 hp
  exact toldE_of he (.inl ⟨rfl, this.1, this.2⟩) ht
 ·exact toldE_of he (.inr ⟨rfl, rfl, fun u hu e => hn u ((loadP_iff hb u).2 ⟨hu, e⟩)⟩) (noT_tab w')
theorem RLoadE.told {w' : World} {e : Ending} {bs : List Int} (h : RLoadE w' e bs) (hb : ∀ x ∈ bs, ByteI x) : ToldE w' e bs := by
 rcases h with ⟨vc, vl, vbn, vbo, vfn, vfe, t, hp, he, ht⟩ | ⟨hn, he⟩
 ·have := (refP_iff hb t).1 hp
  exact toldE_of he (.inl ⟨rfl, this.1, this.2⟩) ht
 ·exact toldE_of he (.inr ⟨rfl, rfl, fun u hu e => hn u ((refP_iff hb u).2 ⟨hu, e⟩)⟩) (noT_tab w')
theorem byte_app {a b : List Int} (ha : ∀ x ∈ a, ByteI x) (hb : ∀ x ∈ b, ByteI x) : ∀ x ∈ a ++ b, ByteI x := fun x hx => by
 rcases List.mem_append.1 hx with h | h
 ·exact ha x h
 ·exact hb x h
theorem byte_take {a : List Int} (ha : ∀ x ∈ a, ByteI x) (k : Nat) : ∀ x ∈ a.take k, ByteI x := fun x hx => ha x (List.mem_of_mem_take hx)
theorem BRow.of_own {w : World} {B n : Nat} {v : Value} {l : List Int} (h : OwnE encB 5 1 w B v n l) (hl : l.length = n) : BRow w B v l := by
 unfold BRow; rw [hl]; exact h
end Go.Proofs.Ytacgakkcpmhgmaa
namespace Go.Proofs.Ytacgakkcpmhgmaa
open Go Go.RowKit Go.Proofs
def IntsV (xs : List Value) : Prop := ∀ u ∈ xs, ∃ x, u = .int .i64 x
theorem intsV_map (l : List Int) : IntsV (l.map (Value.int .i64)) := fun u hu => by
 obtain ⟨x, -, rfl⟩ := List.mem_map.1 hu
 exact ⟨x, rfl⟩
theorem intsV_enc (l : List V3) : IntsV (l.flatMap encV) := fun u hu => by
 obtain ⟨x, -, h⟩ := List.mem_flatMap.1 hu
 simp only [encV, List.mem_cons, List.not_mem_nil, or_false] at h
 rcases h with rfl | rfl | rfl
 ·exact ⟨_, rfl⟩
 ·exact ⟨_, rfl⟩
 ·exact ⟨_, rfl⟩
def FlatS (e : TypeId) (k : Nat) (W : World) (v : Value) (n : Nat) : Prop :=
 (v = .slice none 0 0 /\ n = 0) \/ ∃ (g off cap : Nat) (cs : Array Value), v = .slice (some ⟨g, off, none⟩) n cap /\ n <= cap /\ cap <= maxLen /\ W.heap[g]? = some (.cells cs e (0, 0)) /\ ∀ o, o < n * k -> ∃ x, cs[off + o]? = some (.int .i64 x)
structure Turn (W W' : World) (g : Nat) (e : TypeId) : Prop where
 far : ∀ q, q < W.heap.size -> q ≠ g -> W'.heap[q]? = W.heap[q]?
 at_ : ∃ cs cs' : Array Value, W.heap[g]? = some (.cells cs e (0, 0)) /\ W'.heap[g]? = some (.cells cs' e (0, 0)) /\ cs'.size = cs.size /\ ∀ (o : Nat) (x : Int), cs[o]? = some (Value.int .i64 x) -> ∃ y : Int, cs'[o]? = some (Value.int .i64 y)
structure Aside (W W' : World) (g : Nat) (t : TypeId) : Prop where
 far : ∀ q, q < W.heap.size -> q ≠ g -> W'.heap[q]? = W.heap[q]?
 at_ : ∃ (cs : Array Value) (fr : Nat × Nat), W.heap[g]? = some (.cells cs t fr)
theorem heap_lt {W : World} {g : Nat} {o : Obj} (h : W.heap[g]? = some o) : g < W.heap.size := (Array.getElem?_eq_some_iff.1 h).1
section
variable {W W' : World} {e e' t : TypeId} {k n g q B : Nat} {v u : Value} {xs : List Value}
theorem FlatS.turn (h : FlatS e k W v n) (ht : Turn W W' g e') : FlatS e k W' v n := by
 rcases h with h | ⟨g0, off, cap, cs, rfl, h1, h2, h3, h4⟩
 ·exact .inl h
 ·by_cases hg : g0 = g
  ·subst hg
   obtain ⟨c1, c2, q1, q2, -, q3⟩ := ht.at_
   rw [h3] at q1
   simp only [Option.some.injEq, Obj.cells.injEq] at q1
   obtain ⟨rfl, rfl, -⟩ := q1
   exact .inr ⟨g0, off, cap, c2, rfl, h1, h2, q2, fun o ho => (h4 o ho).elim fun x hx => q3 _ x hx⟩
  ·exact .inr ⟨g0, off, cap, cs, rfl, h1, h2, (ht.far _ (heap_lt h3) hg).trans h3, h4⟩
theorem FlatS.aside (h : FlatS e k W v n) (ht : Aside W W' g t) (hne : e ≠ t) : FlatS e k W' v n := by
 rcases h with h | ⟨g0, off, cap, cs, rfl, h1, h2, h3, h4⟩
 ·exact .inl h
 ·by_cases hg : g0 = g
  ·subst hg
   obtain ⟨c1, fr, q1⟩ := ht.at_
   rw [h3] at q1
   simp only [Option.some.injEq, Obj.cells.injEq] at q1
   exact absurd q1.2.1 hne
  ·exact .inr ⟨g0, off, cap, cs, rfl, h1, h2, (ht.far _ (heap_lt h3) hg).trans h3, h4⟩
theorem FlatS.below (h : FlatS e k W v n) (hb : Below W.heap.size W W') : FlatS e k W' v n := by
 rcases h with h | ⟨g0, off, cap, cs, rfl, h1, h2, h3, h4⟩
 ·exact .inl h
 ·exact .inr ⟨g0, off, cap, cs, rfl, h1, h2, (hb.block _ (heap_lt h3)).trans h3, h4⟩
theorem FlatS.of_own (h : W.ownsRow B e k v n xs) (hx : IntsV xs) : FlatS e k W v n := by
 rcases h.2 with ⟨rfl, rfl⟩ | ⟨g, cap, cur, rfl, _, hh, h1, h2, h3, h4⟩
 ·exact .inl ⟨rfl, rfl⟩
 ·refine .inr ⟨g, 0, cap, cur, rfl, h1, h2, hh, fun o ho => ?_⟩
  have hl : o < xs.length := by rw [h.1]; exact ho
  obtain ⟨x, hx⟩ := hx _ (List.getElem_mem hl)
  refine ⟨x, ?_⟩
  have e1 : (cur.toList.take (n * k))[o]? = some xs[o] := by rw [h4]; exact List.getElem?_eq_getElem hl
  rw [List.getElem?_take, if_pos ho, hx] at e1
  rw [Nat.zero_add]
  simpa using e1
def intAt (cs : Array Value) (o : Nat) : Int := match cs[o]? with
 | some (.int .i64 x) => x
 | _ => 0
theorem intAt_of {cs : Array Value} {o : Nat} (h : ∃ x, cs[o]? = some (.int .i64 x)) : cs[o]? = some (.int .i64 (intAt cs o)) := by
 obtain ⟨x, hx⟩ := h
 unfold intAt
 rw [hx]
theorem FlatS.reads1 (h : FlatS e 1 W v n) : ∃ l, l.length = n /\ ReadsI W v n l := by
 rcases h with ⟨rfl, rfl⟩ | ⟨g0, off, cap, cs, rfl, h1, h2, h3, h4⟩
 ·exact ⟨[], rfl, readsI_nil0 W⟩
 ·refine ⟨(List.range n).map fun o => intAt cs (off + o), by simp, by simp, _, cap, rfl, h1, h2, (fun e => by cases e), fun i hi => ⟨g0, off, rfl, fun j hj => ?_⟩⟩
  rw [cell_of_row W g0 (off + j) cs e (0, 0) h3, intAt_of (h4 j (by omega))]
  simp [List.getD_eq_getElem?_getD, hj]
theorem FlatS.reads3 (h : FlatS e 3 W v n) : ∃ l, l.length = n /\ ReadsE encV 3 W v n l := by
 rcases h with ⟨rfl, rfl⟩ | ⟨g0, off, cap, cs, rfl, h1, h2, h3, h4⟩
 ·exact ⟨[], rfl, ReadsE.nil W⟩
 ·refine ⟨(List.range n).map fun i => (intAt cs (off + i * 3), intAt cs (off + i * 3 + 1), intAt cs (off + i * 3 + 2)), by simp, by simp, _, cap, rfl, h1, h2, (fun e => by cases e), fun i x hi => ⟨g0, off, rfl, fun j u hj => ?_⟩⟩
  have hin : i < n := by have := (List.getElem?_eq_some_iff.1 hi).1; simpa using this
  have hx : x = (intAt cs (off + i * 3), intAt cs (off + i * 3 + 1), intAt cs (off + i * 3 + 2)) := by
   rw [List.getElem?_map, List.getElem?_range hin] at hi
   simpa using hi.symm
  subst hx
  have hj3 : j < 3 := by have := (List.getElem?_eq_some_iff.1 hj).1; rwa [encV_len] at this
  have hc := intAt_of (h4 (i * 3 + j) (by omega))
  rw [cell_of_row W g0 (off + i * 3 + j) cs e (0, 0) h3]
  rw [<- Nat.add_assoc] at hc
  rw [hc]
  rcases (show j = 0 \/ j = 1 \/ j = 2 by omega) with rfl | rfl | rfl <;> simpa [encV] using hj
def RowS (e e' : TypeId) (k q : Nat) (W : World) (v : Value) (n : Nat) : Prop :=
 (v = .slice none 0 0 /\ n = 0) \/ ∃ (g off cap : Nat) (cs : Array Value), v = .slice (some ⟨g, off, none⟩) n cap /\ n <= cap /\ cap <= maxLen /\ W.heap[g]? = some (.cells cs e (0, 0)) /\ ∀ o, o < n -> ∃ u m, cs[off + o]? = some u /\ q <= m /\ FlatS e' k W u m
theorem RowS.turn (h : RowS e e' k q W v n) (ht : Turn W W' g t) (hne : e ≠ t) : RowS e e' k q W' v n := by
 rcases h with h | ⟨g0, off, cap, cs, rfl, h1, h2, h3, h4⟩
 ·exact .inl h
 ·refine .inr ⟨g0, off, cap, cs, rfl, h1, h2, (ht.far _ (heap_lt h3) (fun hg => ?_)).trans h3, fun o ho => ?_⟩
  ·subst hg
   obtain ⟨c1, c2, q1, -⟩ := ht.at_
   rw [h3] at q1
   simp only [Option.some.injEq, Obj.cells.injEq] at q1
   exact hne q1.2.1
  ·obtain ⟨u, m, a1, a2, a3⟩ := h4 o ho
   exact ⟨u, m, a1, a2, a3.turn ht⟩
theorem RowS.aside (h : RowS e e' k q W v n) (ht : Aside W W' g t) (hne : e ≠ t) (hne' : e' ≠ t) : RowS e e' k q W' v n := by
 rcases h with h | ⟨g0, off, cap, cs, rfl, h1, h2, h3, h4⟩
 ·exact .inl h
 ·refine .inr ⟨g0, off, cap, cs, rfl, h1, h2, (ht.far _ (heap_lt h3) (fun hg => ?_)).trans h3, fun o ho => ?_⟩
  ·subst hg
   obtain ⟨c1, fr, q1⟩ := ht.at_
   rw [h3] at q1
   simp only [Option.some.injEq, Obj.cells.injEq] at q1
   exact hne q1.2.1
  ·obtain ⟨u, m, a1, a2, a3⟩ := h4 o ho
   exact ⟨u, m, a1, a2, a3.aside ht hne'⟩
theorem RowS.below (h : RowS e e' k q W v n) (hb : Below W.heap.size W W') : RowS e e' k q W' v n := by
 rcases h with h | ⟨g0, off, cap, cs, rfl, h1, h2, h3, h4⟩
 ·exact .inl h
 ·refine .inr ⟨g0, off, cap, cs, rfl, h1, h2, (hb.block _ (heap_lt h3)).trans h3, fun o ho => ?_⟩
  obtain ⟨u, m, a1, a2, a3⟩ := h4 o ho
  exact ⟨u, m, a1, a2, a3.below hb⟩
theorem list_of {α : Type} {P : Nat -> α -> Prop} (d : α) : ∀ n, (∀ i, i < n -> ∃ x, P i x) -> ∃ l : List α, l.length = n /\ ∀ i, i < n -> P i (l.getD i d)
 | 0, _ => ⟨[], rfl, fun i hi => absurd hi (Nat.not_lt_zero i)⟩
 | n + 1, h => by
   obtain ⟨l, hl, hp⟩ := list_of d n (fun i hi => h i (by omega))
   obtain ⟨x, hx⟩ := h n (by omega)
   refine ⟨l ++ [x], by simp [hl], fun i hi => ?_⟩
   by_cases e : i = n
   ·subst e
    have : (l ++ [x]).getD i d = x := by simp [List.getD_eq_getElem?_getD, <- hl]
    rw [this]; exact hx
   ·have : (l ++ [x]).getD i d = l.getD i d := by simp [List.getD_eq_getElem?_getD, List.getElem?_append_left (show i < l.length by omega)]
    rw [this]; exact hp i (by omega)
theorem RowS.rowsI (h : RowS e e' 1 q W v n) : ∃ T, T.length = n /\ RowsI W v T := by
 rcases h with ⟨rfl, rfl⟩ | ⟨g0, off, cap, cs, rfl, h1, h2, h3, h4⟩
 ·exact ⟨[], rfl, RowsI.nil W⟩
 ·obtain ⟨T, hT, hp⟩ := list_of (P := fun i (l : List Int) => ∃ u, W.cell? ⟨g0, off + i, none⟩ = some u /\ ReadsI W u l.length l) [] n (fun i hi => by
   obtain ⟨u, m, a1, -, a3⟩ := h4 i hi
   obtain ⟨l, hl, hr⟩ := a3.reads1
   subst hl
   exact ⟨l, u, by rw [cell_of_row W g0 (off + i) cs e (0, 0) h3]; exact a1, hr⟩)
  subst hT
  exact ⟨T, rfl, _, cap, rfl, h1, h2, (fun e => by cases e), fun i hi => by
   obtain ⟨u, a1, a2⟩ := hp i hi
   exact ⟨g0, off, u, rfl, a1, a2⟩⟩
theorem RowS.emitR (h : RowS e e' 3 q W v n) : ∃ E, E.length = n /\ EmitR W v E := by
 rcases h with ⟨rfl, rfl⟩ | ⟨g0, off, cap, cs, rfl, h1, h2, h3, h4⟩
 ·exact ⟨[], rfl, none, 0, rfl, Nat.le_refl _, Nat.zero_le _, fun _ => rfl, fun i hi => absurd hi (Nat.not_lt_zero i)⟩
 ·obtain ⟨T, hT, hp⟩ := list_of (P := fun i (l : List V3) => ∃ u, W.cell? ⟨g0, off + i, none⟩ = some u /\ ReadsE encV 3 W u l.length l) [] n (fun i hi => by
   obtain ⟨u, m, a1, -, a3⟩ := h4 i hi
   obtain ⟨l, hl, hr⟩ := a3.reads3
   subst hl
   exact ⟨l, u, by rw [cell_of_row W g0 (off + i) cs e (0, 0) h3]; exact a1, hr⟩)
  subst hT
  exact ⟨T, rfl, _, cap, rfl, h1, h2, (fun e => by cases e), fun i hi => by
   obtain ⟨u, a1, a2⟩ := hp i hi
   exact ⟨g0, off, u, rfl, a1, a2⟩⟩
end
structure TabQ (W : World) (v0 v1 v2 v3 v4 v5 : Value) : Prop where
 c : ∃ n, FlatS 3 1 W v0 n
 l : ∃ n, n <= 1000000000 /\ FlatS 3 1 W v1 n
 bn : ∃ n, RowS 22 3 1 0 W v2 n
 bo : ∃ n, FlatS 3 1 W v3 n
 fn : ∃ n, RowS 22 3 1 0 W v4 n
 fe : ∃ n, RowS 36 51 3 0 W v5 n
section
variable {W W' : World} {v0 v1 v2 v3 v4 v5 : Value} {g B : Nat} {t : TypeId}
theorem TabQ.tab (h : TabQ W v0 v1 v2 v3 v4 v5) : ∃ t, TabR W v0 v1 v2 v3 v4 v5 t /\ t.letters.length <= 1000000000 := by
 obtain ⟨n0, h0⟩ := h.c; obtain ⟨n1, hn1, h1⟩ := h.l; obtain ⟨n2, h2⟩ := h.bn; obtain ⟨n3, h3⟩ := h.bo; obtain ⟨n4, h4⟩ := h.fn; obtain ⟨n5, h5⟩ := h.fe
 obtain ⟨c, e0, r0⟩ := h0.reads1; obtain ⟨l, e1, r1⟩ := h1.reads1; obtain ⟨bn, e2, r2⟩ := h2.rowsI; obtain ⟨bo, e3, r3⟩ := h3.reads1; obtain ⟨fn, e4, r4⟩ := h4.rowsI; obtain ⟨fe, e5, r5⟩ := h5.emitR
 subst e0 e1 e3
 exact ⟨⟨c, l, bn, bo, fn, fe⟩, ⟨r0, r1, r2, r3, r4, r5⟩, hn1⟩
theorem TabQ.turn (h : TabQ W v0 v1 v2 v3 v4 v5) (ht : Turn W W' g t) (h1 : 22 ≠ t) (h2 : 36 ≠ t) : TabQ W' v0 v1 v2 v3 v4 v5 :=
 ⟨h.c.imp fun _ a => a.turn ht, h.l.imp fun _ a => ⟨a.1, a.2.turn ht⟩, h.bn.imp fun _ a => a.turn ht h1, h.bo.imp fun _ a => a.turn ht, h.fn.imp fun _ a => a.turn ht h1, h.fe.imp fun _ a => a.turn ht h2⟩
theorem TabQ.aside (h : TabQ W v0 v1 v2 v3 v4 v5) (ht : Aside W W' g t) (h1 : 3 ≠ t) (h2 : 22 ≠ t) (h3 : 51 ≠ t) (h4 : 36 ≠ t) : TabQ W' v0 v1 v2 v3 v4 v5 :=
 ⟨h.c.imp fun _ a => a.aside ht h1, h.l.imp fun _ a => ⟨a.1, a.2.aside ht h1⟩, h.bn.imp fun _ a => a.aside ht h2 h1, h.bo.imp fun _ a => a.aside ht h1, h.fn.imp fun _ a => a.aside ht h2 h1, h.fe.imp fun _ a => a.aside ht h4 h3⟩
theorem TabQ.below (h : TabQ W v0 v1 v2 v3 v4 v5) (hb : Below W.heap.size W W') : TabQ W' v0 v1 v2 v3 v4 v5 :=
 ⟨h.c.imp fun _ a => a.below hb, h.l.imp fun _ a => ⟨a.1, a.2.below hb⟩, h.bn.imp fun _ a => a.below hb, h.bo.imp fun _ a => a.below hb, h.fn.imp fun _ a => a.below hb, h.fe.imp fun _ a => a.below hb⟩
end
def OwnI (e : TypeId) (k : Nat) (W : World) (B : Nat) (v : Value) (n : Nat) : Prop := ∃ xs, W.ownsRow B e k v n xs /\ IntsV xs
def OwnR (e e' : TypeId) (k q : Nat) (W : World) (B : Nat) (v : Value) (n : Nat) : Prop := ∃ vals : List Value, W.ownsRow B e 1 v n vals /\ ∀ i, i < n -> ∃ m, q <= m /\ m <= 1000 /\ OwnI e' k W B (vals.getD i undef) m
section
variable {W W' : World} {e e' t : TypeId} {k n g q B : Nat} {v u : Value} {xs : List Value}
theorem OwnI.flat (h : OwnI e k W B v n) : FlatS e k W v n := by
 obtain ⟨xs, h1, h2⟩ := h
 exact .of_own h1 h2
theorem own_below' {W W' : World} {B k n : Nat} {e : TypeId} {v : Value} {xs : List Value} (h : W.ownsRow B e k v n xs) (hb : Below W.heap.size W W') : W'.ownsRow B e k v n xs := by
 refine ⟨h.1, ?_⟩
 rcases h.2 with h2 | ⟨g, cap, cur, rfl, h0, hh, r⟩
 ·exact .inl h2
 ·exact .inr ⟨g, cap, cur, rfl, h0, (hb.block _ (heap_lt hh)).trans hh, r⟩
theorem OwnI.below (h : OwnI e k W B v n) (hb : Below W.heap.size W W') : OwnI e k W' B v n := by
 obtain ⟨xs, h1, h2⟩ := h
 exact ⟨xs, own_below' h1 hb, h2⟩
theorem OwnI.more {B' : Nat} (h : OwnI e k W B v n) (hB : B' <= B) : OwnI e k W B' v n := by
 obtain ⟨xs, h1, h2⟩ := h
 exact ⟨xs, ownsRow_any h1 hB, h2⟩
theorem OwnI.turn (h : OwnI e k W B v n) (ht : Turn W W' g t) : OwnI e k W' B v n := by
 obtain ⟨xs, h1, h2⟩ := h
 rcases h1.2 with ⟨rfl, rfl⟩ | ⟨g0, cap, cur, rfl, h0, hh, r1, r2, r3, r4⟩
 ·exact ⟨xs, ⟨h1.1, .inl ⟨rfl, rfl⟩⟩, h2⟩
 ·by_cases hg : g0 = g
  ·subst hg
   obtain ⟨c1, c2, q1, q2, qs, q3⟩ := ht.at_
   rw [hh] at q1
   simp only [Option.some.injEq, Obj.cells.injEq] at q1
   obtain ⟨rfl, rfl, -⟩ := q1
   have hle : n * k <= cur.size := by rw [r3]; exact Nat.mul_le_mul_right _ r1
   refine ⟨c2.toList.take (n * k), ⟨by rw [List.length_take, Array.length_toList, qs]; omega, .inr ⟨g0, cap, c2, rfl, h0, q2, r1, r2, by rw [qs, r3], rfl⟩⟩, fun u hu => ?_⟩
   obtain ⟨o, ho, rfl⟩ := List.getElem_of_mem hu
   have ho2 : o < n * k := by rw [List.length_take] at ho; omega
   have hoc : o < cur.size := by omega
   have hmem : cur[o] ∈ xs := by
    rw [<- r4]
    have : (cur.toList.take (n * k))[o]? = some cur[o] := by rw [List.getElem?_take, if_pos ho2]; simp [hoc]
    exact List.mem_of_getElem? this
   obtain ⟨x, hx⟩ := h2 _ hmem
   obtain ⟨y, hy⟩ := q3 o x (by rw [Array.getElem?_eq_getElem hoc, hx])
   refine ⟨y, ?_⟩
   have e1 : (c2.toList.take (n * k))[o]? = some (.int .i64 y) := by rw [List.getElem?_take, if_pos ho2]; simpa using hy
   rw [List.getElem?_eq_getElem ho] at e1
   simpa using e1
  ·exact ⟨xs, ⟨h1.1, .inr ⟨g0, cap, cur, rfl, h0, (ht.far _ (heap_lt hh) hg).trans hh, r1, r2, r3, r4⟩⟩, h2⟩
theorem OwnR.row (h : OwnR e e' k q W B v n) : RowS e e' k 0 W v n := by
 obtain ⟨vals, h1, h2⟩ := h
 rcases h1.2 with ⟨rfl, rfl⟩ | ⟨g0, cap, cur, rfl, h0, hh, r1, r2, r3, r4⟩
 ·exact .inl ⟨rfl, rfl⟩
 ·refine .inr ⟨g0, 0, cap, cur, rfl, r1, r2, hh, fun o ho => ?_⟩
  obtain ⟨m, -, -, hm⟩ := h2 o ho
  have hl : o < vals.length := by rw [h1.1]; omega
  refine ⟨vals.getD o undef, m, ?_, Nat.zero_le _, hm.flat⟩
  have e1 : (cur.toList.take (n * 1))[o]? = some vals[o] := by rw [r4]; exact List.getElem?_eq_getElem hl
  rw [List.getElem?_take, if_pos (by omega)] at e1
  rw [Nat.zero_add, List.getD_eq_getElem?_getD, List.getElem?_eq_getElem hl]
  simpa using e1
theorem OwnR.below (h : OwnR e e' k q W B v n) (hb : Below W.heap.size W W') : OwnR e e' k q W' B v n := by
 obtain ⟨vals, h1, h2⟩ := h
 exact ⟨vals, own_below' h1 hb, fun i hi => (h2 i hi).imp fun m a => ⟨a.1, a.2.1, a.2.2.below hb⟩⟩
theorem OwnI.at_ (h : OwnI e k W B v n) {o : Nat} (ho : o < n * k) : ∃ g cap x, v = .slice (some ⟨g, 0, none⟩) n cap /\ n <= cap /\ cap <= 9223372036854775807 /\ B <= g /\ g < W.heap.size /\ W.cell? ⟨g, o, none⟩ = some (.int .i64 x) /\ W.frozen? ⟨g, o, none⟩ = false /\ ∀ y, Turn W (W.setCell ⟨g, o, none⟩ (.int .i64 y)) g e := by
 obtain ⟨xs, h1, h2⟩ := h
 have hl : o < xs.length := by rw [h1.1]; exact ho
 rcases h1.2 with ⟨rfl, rfl⟩ | ⟨g0, cap, cur, rfl, h0, hh, r1, r2, r3, r4⟩
 ·rw [Nat.zero_mul] at ho; omega
 ·obtain ⟨x, hx⟩ := h2 _ (List.getElem_mem hl)
  have e1 : (cur.toList.take (n * k))[o]? = some xs[o] := by rw [r4]; exact List.getElem?_eq_getElem hl
  rw [List.getElem?_take, if_pos ho, hx] at e1
  have e2 : cur[o]? = some (.int .i64 x) := by simpa using e1
  have hx0 : Blk W g0 e cur := hh
  refine ⟨g0, cap, x, rfl, r1, by unfold maxLen at r2; exact r2, h0, heap_lt hh, by rw [cell_of_row W g0 o cur e (0, 0) hh]; exact e2, hx0.frozen o, fun y => ⟨fun q hq hg => Below.heap_setCell W ⟨g0, o, none⟩ _ q hg, cur, cur.setIfInBounds o (.int .i64 y), hh, hx0.set_ o (.int .i64 y), by simp, fun o' x' h' => ?_⟩⟩
  rw [Array.getElem?_setIfInBounds]
  by_cases ee : o = o'
  ·subst ee
   have : o < cur.size := (Array.getElem?_eq_some_iff.1 h').1
   exact ⟨y, by simp [this]⟩
  ·exact ⟨x', by rw [if_neg ee]; exact h'⟩
theorem OwnR.at_ (h : OwnR e e' k q W B v n) {i : Nat} (hi : i < n) : ∃ g cap u m, v = .slice (some ⟨g, 0, none⟩) n cap /\ n <= cap /\ cap <= 9223372036854775807 /\ B <= g /\ g < W.heap.size /\ W.cell? ⟨g, i, none⟩ = some u /\ W.frozen? ⟨g, i, none⟩ = false /\ q <= m /\ m <= 1000 /\ OwnI e' k W B u m := by
 obtain ⟨vals, h1, h2⟩ := h
 have hl : i < vals.length := by rw [h1.1]; omega
 obtain ⟨m, hm1, hm2, hm3⟩ := h2 i hi
 rcases h1.2 with ⟨rfl, rfl⟩ | ⟨g0, cap, cur, rfl, h0, hh, r1, r2, r3, r4⟩
 ·omega
 ·have e1 : (cur.toList.take (n * 1))[i]? = some vals[i] := by rw [r4]; exact List.getElem?_eq_getElem hl
  rw [List.getElem?_take, if_pos (by omega)] at e1
  have e2 : cur[i]? = some vals[i] := by simpa using e1
  have hx0 : Blk W g0 e cur := hh
  refine ⟨g0, cap, vals.getD i undef, m, rfl, r1, by unfold maxLen at r2; exact r2, h0, heap_lt hh, ?_, hx0.frozen i, hm1, hm2, hm3⟩
  rw [cell_of_row W g0 i cur e (0, 0) hh, e2, List.getD_eq_getElem?_getD, List.getElem?_eq_getElem hl]
  rfl
theorem RowS.put {o m : Nat} {cap off : Nat} (h : RowS e e' k q W (.slice (some ⟨g, off, none⟩) n cap) n) (hu : FlatS e' k W u m) (hne : e' ≠ e) (hq : q <= m) : RowS e e' k q (W.setCell ⟨g, o, none⟩ u) (.slice (some ⟨g, off, none⟩) n cap) n := by
 rcases h with ⟨h, -⟩ | ⟨g0, off0, cap0, cs, hv, h1, h2, h3, h4⟩
 ·cases h
 ·simp only [Value.slice.injEq, Option.some.injEq, Addr.mk.injEq, and_true, true_and] at hv
  obtain ⟨⟨rfl, rfl⟩, rfl⟩ := hv
  have hx0 : Blk W g e cs := h3
  have ha : Aside W (W.setCell ⟨g, o, none⟩ u) g e := ⟨fun q hq hg => Below.heap_setCell W ⟨g, o, none⟩ _ q hg, cs, (0, 0), h3⟩
  refine .inr ⟨g, off, cap, cs.setIfInBounds o u, rfl, h1, h2, hx0.set_ o u, fun i hi => ?_⟩
  obtain ⟨w, m', a1, a2, a3⟩ := h4 i hi
  rw [Array.getElem?_setIfInBounds]
  by_cases ee : o = off + i
  ·rw [if_pos ee, if_pos (by have := (Array.getElem?_eq_some_iff.1 a1).1; omega)]
   exact ⟨u, m, rfl, hq, hu.aside ha hne⟩
  ·rw [if_neg ee]
   exact ⟨w, m', a1, a2, a3.aside ha hne⟩
theorem aside_set {W : World} {g o : Nat} {t : TypeId} {cs : Array Value} {fr : Nat × Nat} (h : W.heap[g]? = some (.cells cs t fr)) (u : Value) : Aside W (W.setCell ⟨g, o, none⟩ u) g t :=
 ⟨fun q hq hg => Below.heap_setCell W ⟨g, o, none⟩ _ q hg, cs, fr, h⟩
end
structure TabS (W : World) (B : Nat) (v0 v1 v2 v3 v4 v5 : Value) (m k : Nat) : Prop where
 c : OwnI 3 1 W B v0 m
 l : OwnI 3 1 W B v1 m
 bn : OwnR 22 3 1 1 W B v2 k
 bo : OwnI 3 1 W B v3 k
 fn : OwnR 22 3 1 1 W B v4 k
 fe : OwnR 36 51 3 2 W B v5 k
theorem TabS.q {W : World} {B : Nat} {v0 v1 v2 v3 v4 v5 : Value} {m k : Nat} (h : TabS W B v0 v1 v2 v3 v4 v5 m k) (hm : m <= 1000000000) : TabQ W v0 v1 v2 v3 v4 v5 :=
 ⟨⟨_, h.c.flat⟩, ⟨m, hm, h.l.flat⟩, ⟨_, h.bn.row⟩, ⟨_, h.bo.flat⟩, ⟨_, h.fn.row⟩, ⟨_, h.fe.row⟩⟩
theorem TabS.below {W W' : World} {B : Nat} {v0 v1 v2 v3 v4 v5 : Value} {m k : Nat} (h : TabS W B v0 v1 v2 v3 v4 v5 m k) (hb : Below W.heap.size W W') : TabS W' B v0 v1 v2 v3 v4 v5 m k :=
 ⟨h.c.below hb, h.l.below hb, h.bn.below hb, h.bo.below hb, h.fn.below hb, h.fe.below hb⟩
theorem OwnR.of_ll {W : World} {e e' : TypeId} {k n q B B' : Nat} {v : Value} {xss : List (Nat × List Value)} (h : OwnLL W B e e' k v n xss) (hB : B' <= B) (hx : ∀ i, i < n -> q <= (xss.getD i (0, [])).1 /\ (xss.getD i (0, [])).1 <= 1000 /\ IntsV (xss.getD i (0, [])).2) : OwnR e e' k q W B' v n := by
 obtain ⟨h1, vals, h2, h3⟩ := h
 exact ⟨vals, ownsRow_any h2 hB, fun i hi => ⟨_, (hx i hi).1, (hx i hi).2.1, _, ownsRow_any (h3 i hi).1 hB, (hx i hi).2.2⟩⟩
theorem OwnR.far {W W' : World} {e e' : TypeId} {k n q B : Nat} {v : Value} {X : Nat -> Prop} (h : OwnR e e' k q W B v n) (hf : Fr X W W') (hX : ∀ q, X q -> FarT W q) (he : e = 3 \/ e = 22 \/ e = 51 \/ e = 36) (he' : e' = 3 \/ e' = 22 \/ e' = 51 \/ e' = 36) : OwnR e e' k q W' B v n := by
 obtain ⟨vals, h1, h2⟩ := h
 exact ⟨vals, row_far h1 hf hX he, fun i hi => (h2 i hi).imp fun m a => ⟨a.1, a.2.1, a.2.2.imp fun xs b => ⟨row_far b.1 hf hX he', b.2⟩⟩⟩
theorem run_pushI {W : World} {B n H : Nat} {v : Value} {x : Int} (ty : TypeId) (h : OwnI 3 1 W B v n) (hn : 1 <= n) (hn9 : n <= 1000000) (hc : W.heap[H]? = some (.cells #[.int .i64 x] 3 (0, 0))) (hB : B <= W.heap.size) :
  ∃ g cap W', (Builtin.append_ #[22, 22] ty #[v, .slice (some ⟨H, 0, none⟩) 1 1]).run Try.prog W = .ok (.slice (some ⟨g, 0, none⟩) (n + 1) cap) W' /\ OwnI 3 1 W' B (.slice (some ⟨g, 0, none⟩) (n + 1) cap) (n + 1) /\ (Below W.heap.size W W' \/ ∃ g0, Turn W W' g0 3) /\ Below B W W' := by
  obtain ⟨xs, h1, h2⟩ := h
  obtain ⟨i, hi, hz0, hz1, hz2⟩ := info_parts info_int
  have hcc : ∀ j u, ([Value.int .i64 x] : List Value)[j]? = some u -> W.cell? ((⟨H, 0, none⟩ : Addr).add j) = some u := fun j u hj => by
   rw [Addr.add_lit, Nat.zero_add, cell_of_row W H j _ _ (0, 0) hc]
   simpa using hj
  have hone : ∀ u ∈ ([Value.int .i64 x] : List Value), u.oneCell' = true := by simp [Value.oneCell']
  obtain ⟨v', W', hr, q2, q3, q4, q5⟩ := run_append_own_at (P := Try.prog) W B 22 ty 3 i (.int .i64 0) 1 8 Try.underlying22 hi hz0 hz1 hz2 rfl (by omega) v n xs h1 ⟨H, 0, none⟩ 1 1 [.int .i64 x] (by simp) hcc hone (by unfold maxLen; omega) (by omega) hB
  obtain ⟨g, cap, rfl⟩ : ∃ g cap, v' = .slice (some ⟨g, 0, none⟩) (n + 1) cap := by
   rcases q2.2 with ⟨_, h0⟩ | ⟨g, cap, cur, rfl, _⟩
   ·omega
   ·exact ⟨g, cap, rfl⟩
  have hlt := h1.lt
  refine ⟨g, cap, W', hr, ⟨_, q2, fun u hu => ?_⟩, ?_, (Below.refl B W).grown q3 hB (fun z hz => (hlt z hz).1)⟩
  ·rcases List.mem_append.1 hu with hu | hu
   ·exact h2 u hu
   ·simp only [List.mem_singleton] at hu
    exact ⟨x, hu⟩
  ·rcases h1.2 with ⟨rfl, rfl⟩ | ⟨g0, cap0, cur, rfl, h0, hh, r1, r2, r3, r4⟩
   ·omega
   ·by_cases hroom : n + 1 <= cap0
    ·have hr2 := run_append_room (P := Try.prog) W 22 ty 3 i Try.underlying22 hi g0 n cap0 cur hh ⟨H, 0, none⟩ 1 1 [.int .i64 x] (by simp [hz1]) hcc hone hroom (by rw [hz1, r3]; simp only [List.length_cons, List.length_nil]; omega)
     rw [hr] at hr2
     simp only [Result.ok.injEq] at hr2
     obtain ⟨-, rfl⟩ := hr2
     refine .inr ⟨g0, fun q hq hg => setRow_other W g0 q _ hg, cur, _, hh, setRow_heap W g0 cur _ _ _ hh, ?_, fun o y hy => ?_⟩
     ·simp only [List.size_toArray, List.length_append, List.length_take, List.length_drop, Array.length_toList, List.length_cons, List.length_nil, hz1]
      omega
     ·have hoc : o < cur.size := (Array.getElem?_eq_some_iff.1 hy).1
      have hyl : cur.toList[o]? = some (.int .i64 y) := by simpa using hy
      simp only [hz1, Nat.mul_one, List.length_cons, List.length_nil, List.getElem?_toArray]
      rcases Nat.lt_trichotomy o n with c | c | c
      ·refine ⟨y, ?_⟩
       rw [List.append_assoc, List.getElem?_append_left (by rw [List.length_take, Array.length_toList]; omega), List.getElem?_take, if_pos c]
       exact hyl
      ·subst c
       refine ⟨x, ?_⟩
       rw [List.append_assoc, List.getElem?_append_right (by rw [List.length_take, Array.length_toList]; omega)]
       rw [List.length_take, Array.length_toList, show o - min o cur.size = 0 by omega]
       rfl
      ·refine ⟨y, ?_⟩
       rw [List.getElem?_append_right (by rw [List.length_append, List.length_take, Array.length_toList]; simp only [List.length_cons, List.length_nil]; omega), List.getElem?_drop, List.length_append, List.length_take, Array.length_toList]
       simp only [List.length_cons, List.length_nil]
       rw [show n + (0 + 1) + (o - (min n cur.size + (0 + 1))) = o by omega]
       exact hyl
    ·have holds : ∀ j u, xs[j]? = some u -> W.cell? ((⟨g0, 0, none⟩ : Addr).add j) = some u := h1.cells (g := g0) rfl
     have hr2 := run_append_grow (P := Try.prog) W 22 ty 3 i (.int .i64 0) Try.underlying22 hi hz0 ⟨g0, 0, none⟩ n cap0 xs (by rw [hz1]; exact h1.1) holds ⟨H, 0, none⟩ 1 1 [.int .i64 x] (by simp [hz1]) hcc (by omega) (by omega) (by rw [hz2]; exact growslice_fits (by omega) (by omega))
     rw [hr] at hr2
     simp only [Result.ok.injEq] at hr2
     obtain ⟨-, rfl⟩ := hr2
     exact .inl ((Below.refl _ _).drew.alloc (Nat.le_refl _) _)
end Go.Proofs.Ytacgakkcpmhgmaa
