/- What the reference's Load has read so far: in memory, and by numbers. The reference's Load. -/
import Derived.Test.YtjkcglgkdclidaaVTableTp
import Derived.Test.YtjkcglgkdclidaaVMiniLe
import Derived.Test.YtjkcglgkdclidaaVTableTa
import Derived.Test.YtjkcglgkdclidaaVTk
import Derived.Test.YtjkcglgkdclidaaVTableH
set_option linter.unusedVariables false
set_option linter.unusedSimpArgs false
set_option maxRecDepth 100000
set_option maxHeartbeats 2000000
namespace Go.Proofs.Ytjkcglgkdclidaa
open Go Go.RowKit Go.Proofs
def xssW (E : List (List V3)) : List (Nat × List Value) := E.map fun l => (l.length, l.flatMap encV)
theorem xssW_snoc (E : List (List V3)) (l : List V3) : xssW (E ++ [l]) = xssW E ++ [(l.length, l.flatMap encV)] := by simp [xssW]
theorem xssW_at (E : List (List V3)) {i : Nat} (h : i < E.length) : (xssW E).getD i (0, []) = ((E.getD i []).length, (E.getD i []).flatMap encV) := by
 simp [xssW, List.getD_eq_getElem?_getD, List.getElem?_eq_getElem h]
theorem xssI_at (T : List (List Int)) {i : Nat} (h : i < T.length) : (xssI T).getD i (0, []) = ((T.getD i []).length, (T.getD i []).map (Value.int .i64)) := by
 simp [xssI, List.getD_eq_getElem?_getD, List.getElem?_eq_getElem h]
theorem OwnLL.rowsI {w : World} {B k : Nat} {v : Value} {xss : List (Nat × List Value)} {T : List (List Int)} (h : OwnLL w B 22 3 1 v k xss) (hk : T.length = k) (hx : ∀ i, i < k -> xss.getD i (0, []) = ((T.getD i []).length, (T.getD i []).map (Value.int .i64))) : RowsI w v T := by
 subst hk
 obtain ⟨h1, vals, h2, h3⟩ := h
 have hl : vals.length = T.length := by have := h2.1; omega
 rcases h2.2 with ⟨e1, e0⟩ | ⟨g, cap, cur, e, _, _, q1, q2, _⟩
 ·have : T = [] := List.eq_nil_of_length_eq_zero e0
  subst this; subst e1
  exact ⟨none, 0, rfl, Nat.le_refl _, Nat.zero_le _, fun _ => rfl, fun i hi => absurd hi (by simp)⟩
 ·subst e
  refine ⟨_, cap, rfl, q1, q2, (fun e => by cases e), fun i hi => ⟨g, 0, vals.getD i undef, rfl, ?_, ?_⟩⟩
  ·rw [Nat.zero_add, World.ownsRow.cellAt h2 i (by omega)]
   simp [List.getD, List.getElem?_eq_getElem (show i < vals.length by omega)]
  ·have h4 := (h3 i hi).1
   rw [hx i hi] at h4
   exact Own.readsI h4
structure PTab (w : World) (B : Nat) (vc vl vbn vbo vfn vfe : Value) (t : Tab) : Prop where
 c : Own w B vc t.cuts.length t.cuts
 l : Own w B vl t.letters.length t.letters
 bn : OwnLL w B 22 3 1 vbn t.bn.length (xssI t.bn)
 bo : Own w B vbo t.bo.length t.bo
 fn : OwnLL w B 22 3 1 vfn t.fn.length (xssI t.fn)
 fe : OwnLL w B 46 45 3 vfe t.fe.length (xssW t.fe)
section
variable {w w' : World} {B : Nat} {vc vl vbn vbo vfn vfe : Value} {t : Tab}
theorem PTab.tabR (h : PTab w B vc vl vbn vbo vfn vfe t) : TabR w vc vl vbn vbo vfn vfe t :=
 ⟨h.c.readsI, h.l.readsI, h.bn.rowsI rfl (fun i hi => xssI_at _ hi), h.bo.readsI, h.fn.rowsI rfl (fun i hi => xssI_at _ hi), h.fe.emitR rfl (fun i hi => xssW_at _ hi)⟩
def FarT (w : World) (q : Nat) : Prop := ∃ t cs, Blk w q t cs /\ t ≠ 3 /\ t ≠ 22 /\ t ≠ 45 /\ t ≠ 46
theorem row_far {X : Nat -> Prop} {e : TypeId} {u : Value} {n sz : Nat} {xs : List Value} (h : w.ownsRow B e sz u n xs) (hf : Fr X w w') (hX : ∀ q, X q -> FarT w q) (he : e = 3 \/ e = 22 \/ e = 45 \/ e = 46) : w'.ownsRow B e sz u n xs :=
 rowFr h hf (fun q hq hx => by
  obtain ⟨t, cs, hb, h1, h2, h3, h4⟩ := hX q hx
  have hne : t ≠ e := by rcases he with rfl | rfl | rfl | rfl <;> assumption
  exact blk_ne hb h hne hq)
theorem ll_far {X : Nat -> Prop} {e e' : TypeId} {v : Value} {k sz : Nat} {xss : List (Nat × List Value)} (h : OwnLL w B e e' sz v k xss) (hf : Fr X w w') (hX : ∀ q, X q -> FarT w q) (he : e = 3 \/ e = 22 \/ e = 45 \/ e = 46) (he' : e' = 3 \/ e' = 22 \/ e' = 45 \/ e' = 46) : OwnLL w' B e e' sz v k xss := by
 obtain ⟨h3, vals, h4, h5⟩ := h
 exact ⟨h3, vals, row_far h4 hf hX he, fun i hi => ⟨row_far (h5 i hi).1 hf hX he', (h5 i hi).2⟩⟩
theorem PTab.far {X : Nat -> Prop} (h : PTab w B vc vl vbn vbo vfn vfe t) (hf : Fr X w w') (hX : ∀ q, X q -> FarT w q) : PTab w' B vc vl vbn vbo vfn vfe t :=
 ⟨row_far h.c hf hX (.inl rfl), row_far h.l hf hX (.inl rfl), ll_far h.bn hf hX (.inr (.inl rfl)) (.inl rfl), row_far h.bo hf hX (.inl rfl), ll_far h.fn hf hX (.inr (.inl rfl)) (.inl rfl), ll_far h.fe hf hX (.inr (.inr (.inr rfl))) (.inr (.inr (.inl rfl)))⟩
theorem PTab.below (h : PTab w B vc vl vbn vbo vfn vfe t) (hb : Below w.heap.size w w') : PTab w' B vc vl vbn vbo vfn vfe t :=
 h.far (X := fun _ => False) (Fr.of_below hb) (fun q e => e.elim)
theorem PTab.one {b : Nat} {ty : TypeId} {cs : Array Value} (h : PTab w B vc vl vbn vbo vfn vfe t) (hf : Fr (fun q => q = b) w w') (hx : Blk w b ty cs) (hty : ty ≠ 3 /\ ty ≠ 22 /\ ty ≠ 45 /\ ty ≠ 46) : PTab w' B vc vl vbn vbo vfn vfe t :=
 h.far hf (fun q e => by subst e; exact ⟨ty, cs, hx, hty⟩)
theorem PTab.nil (w : World) (B : Nat) : PTab w B (.slice none 0 0) (.slice none 0 0) (.slice none 0 0) (.slice none 0 0) (.slice none 0 0) (.slice none 0 0) ⟨[], [], [], [], [], []⟩ :=
 ⟨Own.nil _ _, Own.nil _ _, OwnLL.nil _ _ _ _ _, Own.nil _ _, OwnLL.nil _ _ _ _ _, OwnLL.nil _ _ _ _ _⟩
theorem PTab.grown {V : World} {E : List (List V3)} {v : Value} {n : Nat} {xs : List Value} (h : PTab w B vc vl vbn vbo vfn vfe t) (hg : w.grownBy V vfe.ownBlock) (hu : w.ownsRow B 46 1 vfe n xs) (he : OwnLL V B 46 45 3 v E.length (xssW E)) : PTab V B vc vl vbn vbo vfn v { t with fe := E } := by
 have key : ∀ {x : Value} {a b c : Nat} {ys : List Value}, w.ownsRow B a b x c ys -> a ≠ 46 -> V.ownsRow B a b x c ys := fun {x a b c ys} hr hne => World.ownsRow.kept hr hg (by
  cases hx : x.ownBlock with
  | none => exact .inl rfl
  | some z => exact .inr (fun q => rows_ne hr hu hne z hx q.symm))
 exact ⟨key h.c (by decide), key h.l (by decide), h.bn.keepG hg hu (by decide) (by decide), key h.bo (by decide), h.fn.keepG hg hu (by decide) (by decide), he⟩
end
theorem Own.anyB {w : World} {B B' n : Nat} {v : Value} {l : List Int} (h : Own w B v n l) (hB : B' <= B) : Own w B' v n l := ownsRow_any h hB
theorem BytesR.dropB {w : World} {g o n cap k : Nat} {l : List Int} (h : BytesR w (.slice (some ⟨g, o, none⟩) n cap) n l) (hk : k <= n) : BytesR w (.slice (some ⟨g, o + k, none⟩) (n - k) (cap - k)) (n - k) (l.drop k) := by
 obtain ⟨⟨h1, a, c, h2, h5, h6, h3, h4⟩, hb⟩ := h
 simp only [Value.slice.injEq, true_and] at h2
 obtain ⟨rfl, rfl⟩ := h2
 refine ⟨⟨by rw [List.length_drop, h1], some ⟨g, o + k, none⟩, cap - k, rfl, by omega, by omega, (fun e => by cases e), fun i x hi => ?_⟩, fun x hx => hb x (List.mem_of_mem_drop hx)⟩
 rw [List.getElem?_drop] at hi
 obtain ⟨g', off, e, hc⟩ := h4 (k + i) x hi
 simp only [Option.some.injEq, Addr.mk.injEq, and_true] at e
 obtain ⟨rfl, rfl⟩ := e
 refine ⟨g, o + k, rfl, fun j u hj => ?_⟩
 have := hc j u hj
 rw [show o + k + i * 1 + j = o + (k + i) * 1 + j by omega]
 exact this
section
variable {α : Type} {rd : List Int -> Option (α × List Int)} {rest r : Option (List Int)} {x : α}
theorem RdOut.some_ {L' : List Int} (h : RdOut rd rest x r) (hr : r = some L') : ∃ L, rest = some L /\ rd L = some (x, L') := by
 obtain ⟨h0, h1⟩ := h
 cases rest with
 | none => have := h0 rfl; rw [hr] at this; cases this
 | some L =>
   refine ⟨L, rfl, ?_⟩
   obtain ⟨a, b⟩ := h1 L rfl
   cases e : rd L with
   | none => have := b e; rw [hr] at this; cases this
   | some p =>
     obtain ⟨y, L2⟩ := p
     obtain ⟨rfl, e2⟩ := a y L2 e
     rw [hr] at e2
     cases e2
     rfl
theorem RdOut.none_ (h : RdOut rd rest x r) (hr : r = none) : rest = none \/ ∃ L, rest = some L /\ rd L = none := by
 obtain ⟨h0, h1⟩ := h
 cases rest with
 | none => exact .inl rfl
 | some L =>
   refine .inr ⟨L, rfl, ?_⟩
   obtain ⟨a, b⟩ := h1 L rfl
   cases e : rd L with
   | none => rfl
   | some p =>
     obtain ⟨y, L2⟩ := p
     obtain ⟨-, e2⟩ := a y L2 e
     rw [hr] at e2
     cases e2
end
theorem six_rd {L0 : List Int} {c l bo : List Int} {bn fn : List (List Int)} {fe : List (List V3)} {r1 r2 r3 r4 r5 r6 : Option (List Int)}
  (h1 : RdOut (rdC (some 100000) rdOne) (some L0) c r1) (h2 : RdOut (rdC (some 100000) rdOne) r1 l r2) (h3 : RdOut (rdC (some 100000) (rdC (some 100000) rdOne)) r2 bn r3) (h4 : RdOut (rdC (some 100000) rdOne) r3 bo r4) (h5 : RdOut (rdC (some 100000) (rdC (some 100000) rdOne)) r4 fn r5) (h6 : RdOut (rdC (some 100000) (rdC (some 100000) rdVec)) r5 fe r6) :
  (∀ L6, r6 = some L6 -> rdT (some 100000) L0 = some (⟨c, l, bn, bo, fn, fe⟩, L6)) /\ (r6 = none -> rdT (some 100000) L0 = none) := by
  constructor
  ·intro L6 e6
   obtain ⟨L5, e5, q6⟩ := h6.some_ e6
   obtain ⟨L4, e4, q5⟩ := h5.some_ e5
   obtain ⟨L3, e3, q4⟩ := h4.some_ e4
   obtain ⟨L2, e2, q3⟩ := h3.some_ e3
   obtain ⟨L1, e1, q2⟩ := h2.some_ e2
   obtain ⟨L, e0, q1⟩ := h1.some_ e1
   cases e0
   unfold rdT
   rw [q1]; simp only
   rw [q2]; simp only
   rw [q3]; simp only
   rw [q4]; simp only
   rw [q5]; simp only
   rw [q6]
  ·intro e6
   rcases h6.none_ e6 with e5 | ⟨L5, e5, q6⟩
   ·rcases h5.none_ e5 with e4 | ⟨L4, e4, q5⟩
    ·rcases h4.none_ e4 with e3 | ⟨L3, e3, q4⟩
     ·rcases h3.none_ e3 with e2 | ⟨L2, e2, q3⟩
      ·rcases h2.none_ e2 with e1 | ⟨L1, e1, q2⟩
       ·rcases h1.none_ e1 with e0 | ⟨L, e0, q1⟩
        ·cases e0
        ·cases e0
         unfold rdT
         rw [q1]
       ·obtain ⟨L, e0, q1⟩ := h1.some_ e1
        cases e0
        unfold rdT
        rw [q1]; simp only
        rw [q2]
      ·obtain ⟨L1, e1, q2⟩ := h2.some_ e2
       obtain ⟨L, e0, q1⟩ := h1.some_ e1
       cases e0
       unfold rdT
       rw [q1]; simp only
       rw [q2]; simp only
       rw [q3]
     ·obtain ⟨L2, e2, q3⟩ := h3.some_ e3
      obtain ⟨L1, e1, q2⟩ := h2.some_ e2
      obtain ⟨L, e0, q1⟩ := h1.some_ e1
      cases e0
      unfold rdT
      rw [q1]; simp only
      rw [q2]; simp only
      rw [q3]; simp only
      rw [q4]
    ·obtain ⟨L3, e3, q4⟩ := h4.some_ e4
     obtain ⟨L2, e2, q3⟩ := h3.some_ e3
     obtain ⟨L1, e1, q2⟩ := h2.some_ e2
     obtain ⟨L, e0, q1⟩ := h1.some_ e1
     cases e0
     unfold rdT
     rw [q1]; simp only
     rw [q2]; simp only
     rw [q3]; simp only
     rw [q4]; simp only
     rw [q5]
   ·obtain ⟨L4, e4, q5⟩ := h5.some_ e5
    obtain ⟨L3, e3, q4⟩ := h4.some_ e4
    obtain ⟨L2, e2, q3⟩ := h3.some_ e3
    obtain ⟨L1, e1, q2⟩ := h2.some_ e2
    obtain ⟨L, e0, q1⟩ := h1.some_ e1
    cases e0
    unfold rdT
    rw [q1]; simp only
    rw [q2]; simp only
    rw [q3]; simp only
    rw [q4]; simp only
    rw [q5]; simp only
    rw [q6]
def RLoadE (w' : World) (e : Ending) (bs : List Int) : Prop :=
 (∃ vc vl vbn vbo vfn vfe t, refP bs t /\ e = .returned (.tuple #[.agg #[vc, vl, vbn, vbo, vfn, vfe], .bool true]) /\ TabR w' vc vl vbn vbo vfn vfe t) \/
 ((∀ t, ¬ refP bs t) /\ e = .returned (.tuple #[.agg #[.slice none 0 0, .slice none 0 0, .slice none 0 0, .slice none 0 0, .slice none 0 0, .slice none 0 0], .bool false]))
end Go.Proofs.Ytjkcglgkdclidaa
namespace Go.Proofs.Ytjkcglgkdclidaa
open Go Go.RowKit Go.Proofs
theorem below_six {B b : Nat} {w w' : World} (h : Below B w w') (hb : B <= b) (v0 v1 v2 v3 v4 v5 : Value) : Below B w ((((((w'.setCell ⟨b, 0, none⟩ v0).setCell ⟨b, 1, none⟩ v1).setCell ⟨b, 2, none⟩ v2).setCell ⟨b, 3, none⟩ v3).setCell ⟨b, 4, none⟩ v4).setCell ⟨b, 5, none⟩ v5) :=
 (((((h.setCell (p := ⟨b, 0, none⟩) hb v0).setCell (p := ⟨b, 1, none⟩) hb v1).setCell (p := ⟨b, 2, none⟩) hb v2).setCell (p := ⟨b, 3, none⟩) hb v3).setCell (p := ⟨b, 4, none⟩) hb v4).setCell (p := ⟨b, 5, none⟩) hb v5
theorem RCur.aside {w w' : World} {b b' S cap cap' m' : Nat} {A A' : Option Addr} {bs : List Int} {bad bad' : Bool} {t : TypeId} (h : RCur w b S A cap bs bad) (hf : Fr (fun q => q = b') w w') (hx : Blk w b' t #[.slice A' m' cap', .bool bad']) (hne : b ≠ b') : RCur w' b S A cap bs bad :=
 ⟨hf.blk h.x hne, h.r.far2 hf hx, h.lo, h.lb⟩
theorem fr_six (b : Nat) (w : World) (v0 v1 v2 v3 v4 v5 : Value) : Fr (fun q => q = b) w ((((((w.setCell ⟨b, 0, none⟩ v0).setCell ⟨b, 1, none⟩ v1).setCell ⟨b, 2, none⟩ v2).setCell ⟨b, 3, none⟩ v3).setCell ⟨b, 4, none⟩ v4).setCell ⟨b, 5, none⟩ v5) :=
 ((((((Fr.refl (fun q => q = b) w).set_ (p := ⟨b, 0, none⟩) (.inl rfl) v0).set_ (p := ⟨b, 1, none⟩) (.inl rfl) v1).set_ (p := ⟨b, 2, none⟩) (.inl rfl) v2).set_ (p := ⟨b, 3, none⟩) (.inl rfl) v3).set_ (p := ⟨b, 4, none⟩) (.inl rfl) v4).set_ (p := ⟨b, 5, none⟩) (.inl rfl) v5
theorem RSt.blk {w : World} {b c S : Nat} {rest : Option (List Int)} (h : RSt w b c S rest) : ∃ cs, Blk w b 84 cs := by
 obtain ⟨A, cap, bs, bad, h1, h2⟩ := h
 exact ⟨_, h1.x⟩
theorem PTab.rd {w w' : World} {B b c S : Nat} {vc vl vbn vbo vfn vfe : Value} {t : Tab} {rest : Option (List Int)} (h : PTab w B vc vl vbn vbo vfn vfe t) (hr : RSt w b c S rest) (hf : Fr (fun q => q = b) w w') : PTab w' B vc vl vbn vbo vfn vfe t := by
 obtain ⟨cs, hx⟩ := hr.blk
 exact h.one hf hx (by decide)
def LdInv (W0 wr : World) (p1 p2 p3 bt cm k : Nat) (rest1 : Option (List Int)) (vc vl vbn vbo vfn : Value) (t : Tab) (i : Nat) : Prop :=
 ∃ (UA : Option Addr) (uc : Nat) (fe : List (List V3)) (r : Option (List Int)), PTab wr p3 vc vl vbn vbo vfn (.slice UA fe.length uc) { t with fe := fe } /\ Blk wr bt 31 #[vc, vl, vbn, vbo, vfn, .slice UA fe.length uc] /\ fe.length = i /\ RdInv (rdC (some 100000) rdVec) k rest1 i fe r /\ RSt wr p2 cm p3 r /\ Below p1 W0 wr
theorem ref_left {bs : List Int} {m : Nat} {L6 : List Int} {T : Tab} {nr : Nat} {bs' : List Int} (hl : bs.length = m + 8) (h6 : rdT (some 100000) (numsB (bs.take m)) = some (T, L6)) (hn : bs'.length = nr) (h8 : bs'.length % 8 = m % 8) (hL : L6 = numsK (bs'.length / 8) bs') (hp : 0 < nr) : ∀ t, ¬ refP bs t := fun t e => by
 obtain ⟨-, -, e3, e4, -⟩ := e
 rw [hl, show m + 8 - 8 = m by omega] at e3 e4
 rw [h6] at e4
 simp only [Option.some.injEq, Prod.mk.injEq] at e4
 have := congrArg List.length e4.2
 rw [hL, numsK_len, List.length_nil] at this
 omega
theorem ref_none {bs : List Int} {m : Nat} (hl : bs.length = m + 8) (h6 : rdT (some 100000) (numsB (bs.take m)) = none) : ∀ t, ¬ refP bs t := fun t e => by
 obtain ⟨-, -, -, e4, -⟩ := e
 rw [hl, show m + 8 - 8 = m by omega, h6] at e4
 cases e4
theorem ref_wrong {bs : List Int} {m : Nat} {L6 : List Int} {T : Tab} (hl : bs.length = m + 8) (h6 : rdT (some 100000) (numsB (bs.take m)) = some (T, L6)) (hr : ¬ RightT T) : ∀ t, ¬ refP bs t := fun t e => by
 obtain ⟨-, -, -, e4, e5⟩ := e
 rw [hl, show m + 8 - 8 = m by omega, h6] at e4
 simp only [Option.some.injEq, Prod.mk.injEq] at e4
 exact hr (e4.1 ▸ e5)
theorem ref_there {bs : List Int} {m : Nat} {L6 : List Int} {T : Tab} {bs' : List Int} (hl : bs.length = m + 8) (hs : un8 (bs.drop m) = sumI (bs.take m)) (h6 : rdT (some 100000) (numsB (bs.take m)) = some (T, L6)) (h8 : bs'.length % 8 = m % 8) (hL : L6 = numsK (bs'.length / 8) bs') (h0 : bs'.length = 0) (hr : RightT T) : refP bs T := by
 refine ⟨by omega, ?_, ?_, ?_, hr⟩
 ·rw [hl, show m + 8 - 8 = m by omega]; exact hs
 ·rw [hl]; omega
 ·rw [hl, show m + 8 - 8 = m by omega, h6, hL, h0]
  rfl
theorem rload_any {w : World} {v : Value} {n : Nat} {bs : List Int} (h : BytesR w v n bs) :
  Calls Try.prog 21 #[v] w fun e w' => RLoadE w' e bs /\ Below w.heap.size w w' := by
  obtain ⟨A, cap, rfl, l1, l2, l3⟩ := h.form
  obtain ⟨bz, hbz⟩ : ∃ b, w.heap.size = b := ⟨_, rfl⟩
  obtain ⟨W0, hW0⟩ : ∃ W, w.alloc (.cells #[.slice none 0 0, .slice none 0 0, .slice none 0 0, .slice none 0 0, .slice none 0 0, .slice none 0 0] 31) = W := ⟨_, rfl⟩
  have hB0 : Below w.heap.size w W0 := by rw [<- hW0]; exact (Below.refl _ _).alloc (Nat.le_refl _) _
  obtain ⟨p1, hp1⟩ : ∃ p, bz + 1 = p := ⟨_, rfl⟩
  have hz0 : W0.heap.size = p1 := by rw [<- hW0, World.size_alloc, hbz, hp1]
  have XZ : Hid (Blk W0 bz 31 #[.slice none 0 0, .slice none 0 0, .slice none 0 0, .slice none 0 0, .slice none 0 0, .slice none 0 0]) := Lib.hid (by rw [<- hW0]; exact Blk.newAt _ hbz _ _)
  have HL := Lib.hid l3
  rcases Nat.lt_or_ge n 8 with h8 | h8
  ·have g8 : (n : Int) < 8 := by omega
   have HNO : Hid (∀ t, ¬ refP bs t) := Lib.hid (fun t e => by have := e.1; rw [HL.out] at this; omega)
   have HB := Lib.hid (hbz ▸ hB0 : Below bz w W0)
   have HBZ := Lib.hid hbz
   have HW0 := Lib.hid hW0
   clear h hB0 hz0 hbz hW0 hp1
   go_enter Try.func21, Try.ntmps21
   go_wp2_with fail
   refine bodyPost_ret (v := .tuple #[.agg #[.slice none 0 0, .slice none 0 0, .slice none 0 0, .slice none 0 0, .slice none 0 0, .slice none 0 0], .bool false]) (by simp [results, Try.results21, go_sem]) rfl ?_
   refine ⟨.inr ⟨HNO.out, rfl⟩, ?_⟩
   rw [HW0.out]
   try simp only [HBZ.out]
   exact HB.out
  ·have g8 : ¬ (n : Int) < 8 := by omega
   obtain ⟨g, o, e0, cA, -⟩ := h.at (i := 0) (by omega)
   subst e0
   have hgw := World.block_lt_of_cell? w _ cA
   have hgw : g < bz := by rw [<- hbz]; exact hgw
   obtain ⟨m, hm⟩ : ∃ m, n = m + 8 := ⟨n - 8, by omega⟩
   subst hm
   obtain ⟨p2, hp2⟩ : ∃ p, p1 + 1 = p := ⟨_, rfl⟩
   obtain ⟨p3, hp3⟩ : ∃ p, p2 + 1 = p := ⟨_, rfl⟩
   obtain ⟨cs, hcs⟩ : ∃ c, cap - m = c := ⟨_, rfl⟩
   obtain ⟨W1, hW1⟩ : ∃ W, W0.alloc (.cells #[.slice (some ⟨g, o + m, none⟩) 8 cs, .bool false] 84) = W := ⟨_, rfl⟩
   obtain ⟨W2, hW2⟩ : ∃ W, W1.alloc (.cells #[.slice (some ⟨g, o, none⟩) m cap, .bool false] 84) = W := ⟨_, rfl⟩
   have hB1 : Below W0.heap.size W0 W1 := by rw [<- hW1]; exact (Below.refl _ _).alloc (Nat.le_refl _) _
   have hB2 : Below W1.heap.size W1 W2 := by rw [<- hW2]; exact (Below.refl _ _).alloc (Nat.le_refl _) _
   have hz1 : W1.heap.size = p2 := by rw [<- hW1, World.size_alloc, hz0, hp2]
   have hz2 : W2.heap.size = p3 := by rw [<- hW2, World.size_alloc, hz1, hp3]
   have xs : Blk W2 p1 84 #[.slice (some ⟨g, o + m, none⟩) 8 cs, .bool false] := by rw [<- hW2]; exact Blk.alloc (by rw [<- hW1]; exact Blk.newAt _ hz0 _ _) _
   have xr : Blk W2 p2 84 #[.slice (some ⟨g, o, none⟩) m cap, .bool false] := by rw [<- hW2]; exact Blk.newAt _ hz1 _ _
   have h2 : BytesR W2 (.slice (some ⟨g, o, none⟩) (m + 8) cap) (m + 8) bs := ((h.below hB0).below hB1).below hB2
   have hs := h2.dropB (k := m) (by omega)
   have hr := h2.pre (k := m) (by omega)
   rw [show m + 8 - m = 8 by omega, hcs] at hs
   have hls : (bs.drop m).length = 8 := by rw [List.length_drop, l3]; omega
   have hlr : (bs.take m).length = m := by rw [List.length_take, l3]; omega
   have HS : Hid (RCur W2 p1 p3 (some ⟨g, o + m, none⟩) cs (bs.drop m) false) := Lib.hid ⟨by rw [hls]; exact xs, by rw [hls]; exact hs, (fun p e => by cases e; show g < p3; omega), by omega⟩
   have hrc : RCur W2 p2 p3 (some ⟨g, o, none⟩) cap (bs.take m) false := ⟨by rw [hlr]; exact xr, by rw [hlr]; exact hr, (fun p e => by cases e; show g < p3; omega), by omega⟩
   have HR : Hid (RSt W2 p2 (m % 8) p3 (some (numsB (bs.take m)))) := Lib.hid ⟨_, _, _, _, hrc, (fun e => by cases e), fun L e => ⟨rfl, by rw [hlr], by injection e with e; rw [<- e]; rfl⟩⟩
   have HRB := Lib.hid hr
   have XR := Lib.hid xr
   have HB0 : Hid (Below bz w W0) := Lib.hid (by rw [<- hbz]; exact hB0)
   have HBW : Hid (Below p1 W0 W2) := Lib.hid (by rw [<- hz0]; exact hB1.trans (hB2.mono hB1.size))
   have HW0 := Lib.hid hW0; have HW1 := Lib.hid hW1; have HW2 := Lib.hid hW2; have HBZ := Lib.hid hbz; have HZ0 := Lib.hid hz0; have HZ1 := Lib.hid hz1; have HZ2 := Lib.hid hz2
   have HGW := Lib.hid hgw
   have HP1 := Lib.hid hp1; have HP2 := Lib.hid hp2; have HP3 := Lib.hid hp3
   have HRC := Lib.hid hrc
   have n12 : p2 ≠ p1 := by omega
   have nz1 : bz ≠ p1 := by omega
   have nz2 : bz ≠ p2 := by omega
   have m0 : (0 : Int) <= (m : Int) := Int.natCast_nonneg _
   have w1 : IntKind.i64.wrap (((m + 8 : Nat) : Int) - 8) = (m : Int) := by rw [show ((m + 8 : Nat) : Int) - 8 = (m : Int) by omega]; exact IntWalk.i64_in _ (by omega)
   have w2 : (m : Int) <= ((m + 8 : Nat) : Int) := by omega
   have w3 : (m : Int) <= (cap : Int) := by omega
   have w4 : ¬ cap = m := by omega
   have w5 : m + 8 - m = 8 := by omega
   have w6 : m <= m + 8 := by omega
   have w7 : m <= cap := by omega
   clear h hW0 hW1 hW2 hp1 hp2 hp3 hbz hz0 hz1 hz2 hB0 hB1 hB2 xs xr h2 hs hr hls hlr hrc hgw cA l3
   go_enter Try.func21, Try.ntmps21
   go_wp2_with fail
   rw [HW0.out, HW1.out, HW2.out]
   try simp only [HBZ.out]
   try simp only [HP1.out]
   try simp only [HP2.out]
   have hb : Below W2.heap.size W2 W2.drew := (Below.refl _ _).drew
   have hS : (fun W : World => W.cell? ⟨p2, 0, none⟩ = some (.slice (some ⟨g, o, none⟩) m cap)) W2.drew := bel_m hb (XR.out.cell 0)
   refine region_y 7 (fun W : World => W.cell? ⟨p2, 0, none⟩ = some (.slice (some ⟨g, o, none⟩) m cap)) (by kernel_rfl) ?_
   generalize W2.drew = V0 at *
   refine tkyg [1] (i := 0) (v := ?_) hS ?_ ?_
   rotate_left
   ·rintro w' s0'
    go_simp
    try with_reducible rfl
   try simp only [Act.put, zq1, zq2, zq3, zq4, zq5, zq6]
   refine tkyg [6, 5, 4, 3] (i := 2) (v := ?_) hS ?_ ?_
   rotate_left
   ·rintro w' s0'
    go_simp
    try with_reducible rfl
   try simp only [Act.put, zq1, zq2, zq3, zq4, zq5, zq6]
   refine tkyg [6, 5, 4] (i := 3) (v := ?_) hS ?_ ?_
   rotate_left
   ·rintro w' s0'
    go_simp
    try with_reducible rfl
   try simp only [Act.put, zq1, zq2, zq3, zq4, zq5, zq6]
   refine tkyg [6, 5] (i := 4) (v := ?_) hS ?_ ?_
   rotate_left
   ·rintro w' s0'
    go_simp
    try with_reducible rfl
   try simp only [Act.put, zq1, zq2, zq3, zq4, zq5, zq6]
   refine tkyg [6] (i := 5) (v := ?_) hS ?_ ?_
   rotate_left
   ·rintro w' s0'
    go_simp
    try with_reducible rfl
   try simp only [Act.put, zq1, zq2, zq3, zq4, zq5, zq6]
   refine anyY_gw (i := 1) (by kernel_rfl) rfl (by rfl) ?_
   intro K hK
   try simp only [zq1, zq2, zq3]
   refine wp_enterE #[.pointer (some ⟨p1, 0, none⟩)] Try.func40 (by kernel_rfl) (by kernel_rfl) ?_ (rdnum_any (HS.out.below hb)) ?_
   ·go_simp
   rintro e V1 ⟨hyes, -, hf⟩
   obtain ⟨rfl, -⟩ := hyes (by rw [List.length_drop, HL.out]; omega)
   have hx0 := (Blk.below XR.out hb XR.out.lt)
   have hx1 := hf.blk hx0 n12
   have HRC1 := Lib.hid ((HRC.out.below hb).aside hf (HS.out.below hb).x n12)
   have HRB1 := Lib.hid ((HRB.out.below hb).far2 hf (HS.out.below hb).x)
   have XZ1 : Hid (Blk V1 bz 31 #[.slice none 0 0, .slice none 0 0, .slice none 0 0, .slice none 0 0, .slice none 0 0, .slice none 0 0]) := Lib.hid (hf.blk (Blk.below (Blk.below XZ.out HBW.out (by rw [<- HZ0.out]; exact XZ.out.lt)) hb (Blk.below XZ.out HBW.out (by rw [<- HZ0.out]; exact XZ.out.lt)).lt) nz1)
   have hbs : Below p1 V0 V1 := hf.below (B := p1) (by have := hb.size; have := HZ2.out; have := HP2.out; have := HP3.out; omega) (fun k hk e => by have e' : k = p1 := e; omega)
   have HBW1 : Hid (Below p1 W0 V1) := Lib.hid ((HBW.out.trans (hb.mono (by have := HZ2.out; have := HP2.out; have := HP3.out; omega))).trans hbs)
   have hsz : p3 <= V1.heap.size := by have := hb.size; have := hf.size; have := HZ2.out; omega
   replace hS : (fun W : World => W.cell? ⟨p2, 0, none⟩ = some (.slice (some ⟨g, o, none⟩) m cap)) V1 := hx1.cell 0
   clear hyes hf hx0 hx1 hbs hb
   refine ⟨_, rfl, ?_⟩
   refine hK _ _ hS ?_
   clear hK
   try simp only [Act.put, zq1, zq2, zq3, zq4, zq5, zq6]
   refine anyY_gw (i := 6) (by kernel_rfl) rfl (by rfl) ?_
   intro K hK
   try simp only [zq1, zq2, zq3]
   refine wp_enterE #[.slice (some ⟨g, o, none⟩) m cap] Try.func24 (by kernel_rfl) (by kernel_rfl) ?_ (rsum_any HRB1.out) ?_
   ·go_simp
   rintro e V2 ⟨rfl, hV2⟩
   subst V2
   refine ⟨_, rfl, ?_⟩
   refine hK _ _ hS ?_
   clear hK
   try simp only [Act.put, zq1, zq2, zq3, zq4, zq5, zq6]
   clear hS HS HRC HRB XR HBW HRB1 HZ1 HW0 HW1 HW2
   rw [show (bs.drop m).take 8 = bs.drop m from List.take_of_length_le (by rw [List.length_drop, HL.out]; omega)]
   obtain ⟨x, hx⟩ : ∃ x, un8 (bs.drop m) = x := ⟨_, rfl⟩
   obtain ⟨y, hy⟩ : ∃ y, sumI (bs.take m) = y := ⟨_, rfl⟩
   rw [hx, hy]
   have HX := Lib.hid hx; have HY := Lib.hid hy
   clear hx hy
   by_cases e1 : x = y
   rotate_left
   ·have q1 : (x != y) = true := by simpa using e1
    have HNO : Hid (∀ t, ¬ refP bs t) := Lib.hid (fun t e => e1 (by have := e.2.1; rw [HL.out, show m + 8 - 8 = m by omega, HX.out, HY.out] at this; exact this))
    refine anyY_last (i := 7) (by kernel_rfl) (by kernel_rfl) (by kernel_rfl) rfl rfl ?_
    try simp only [zq1, zq2, zq3]
    go_simp
    try apply_assumption
    have c0 := XZ1.out.cell 0
    have c1 := XZ1.out.cell 1
    have c2 := XZ1.out.cell 2
    have c3 := XZ1.out.cell 3
    have c4 := XZ1.out.cell 4
    have c5 := XZ1.out.cell 5
    have f0 := XZ1.out.frozen 0
    have f1 := XZ1.out.frozen 1
    have f2 := XZ1.out.frozen 2
    have f3 := XZ1.out.frozen 3
    have f4 := XZ1.out.frozen 4
    have f5 := XZ1.out.frozen 5
    simp only [List.getElem?_toArray, List.getElem?_cons_zero, List.getElem?_cons_succ] at c0 c1 c2 c3 c4 c5
    go_wp2_with fail
    refine bodyPost_ret (v := .tuple #[.agg #[.slice none 0 0, .slice none 0 0, .slice none 0 0, .slice none 0 0, .slice none 0 0, .slice none 0 0], .bool false]) (by simp [results, Try.results21, go_sem, c0, c1, c2, c3, c4, c5]) rfl ?_
    refine ⟨.inr ⟨HNO.out, rfl⟩, ?_⟩
    try rw [HBZ.out]
    exact below_six (HB0.out.trans (HBW1.out.mono (by have := HZ0.out; have := HP1.out; omega))) (Nat.le_refl _) _ _ _ _ _ _
   have q1 : (x != y) = false := by simpa using e1
   refine anyY_last (i := 7) (by kernel_rfl) (by kernel_rfl) (by kernel_rfl) rfl rfl ?_
   try simp only [zq1, zq2, zq3]
   go_simp
   try apply_assumption
   have HE1 : Hid (un8 (bs.drop m) = sumI (bs.take m)) := Lib.hid (by rw [HY.out, <- e1, <- HX.out])
   have HR : Hid (RSt V1 p2 (m % 8) p3 (some (numsB (bs.take m)))) := Lib.hid ⟨_, _, _, _, HRC1.out, (fun e => by cases e), fun L e => ⟨rfl, by rw [List.length_take, HL.out, show min m (m + 8) = m by omega], by injection e with e; rw [<- e]; rfl⟩⟩
   have HSZ := Lib.hid hsz
   have HPT : Hid (p3 = p2 + 1) := Lib.hid HP3.out.symm
   clear HRC1 HX HY q1 hsz HZ2
   go_wp2_with fail
   refine (rnumsR_any HR.out HSZ.out).mono ?_
   rintro e V2 ⟨v0, l0, r1, rfl, ho, hl0, hx, hs, hf⟩
   obtain ⟨A0, d0, ev, -, -, -⟩ := ho.readsI.form
   subst ev
   obtain ⟨bt, hbt⟩ : ∃ b, V2.heap.size = b := ⟨_, rfl⟩
   obtain ⟨W1, hW1⟩ : ∃ W, V2.alloc (.cells #[.slice A0 l0.length d0, .slice none 0 0, .slice none 0 0, .slice none 0 0, .slice none 0 0, .slice none 0 0] 31) = W := ⟨_, rfl⟩
   have hbl : Below V2.heap.size V2 W1 := by rw [<- hW1]; exact (Below.refl _ _).alloc (Nat.le_refl _) _
   have hpt : p3 <= bt := by have := HSZ.out; have := hf.size; omega
   have PT1 : Hid (PTab W1 p3 (.slice A0 l0.length d0) (.slice none 0 0) (.slice none 0 0) (.slice none 0 0) (.slice none 0 0) (.slice none 0 0) ⟨l0, [], [], [], [], []⟩) := Lib.hid (PTab.below ⟨ho.anyB HSZ.out, Own.nil _ _, OwnLL.nil _ _ _ _ _, Own.nil _ _, OwnLL.nil _ _ _ _ _, OwnLL.nil _ _ _ _ _⟩ hbl)
   have XT1 : Hid (Blk W1 bt 31 #[.slice A0 l0.length d0, .slice none 0 0, .slice none 0 0, .slice none 0 0, .slice none 0 0, .slice none 0 0]) := Lib.hid (by rw [<- hW1]; exact Blk.newAt _ hbt _ _)
   have HR1 := Lib.hid (hs.below hbl)
   have HX1 := Lib.hid hx
   have hz1 : W1.heap.size = bt + 1 := by rw [<- hW1, World.size_alloc, hbt]
   have hq1 : Below p1 V1 V2 := hf.below (B := p1) (by have := HSZ.out; have := HPT.out; have := HP2.out; omega) (fun k hk e => by have e' : k = p2 := e; have := HP2.out; omega)
   have HB1' : Hid (Below p1 W0 W1) := Lib.hid ((HBW1.out.trans hq1).trans (hbl.mono (by have := HPT.out; have := HP2.out; omega)))
   have nbt : bt ≠ p2 := by have := HPT.out; omega
   have nzt : bz ≠ bt := by have := HPT.out; have := HP2.out; have := HP1.out; omega
   have hs1 : p3 <= W1.heap.size := by omega
   have HS1 := Lib.hid hs1
   have HW1 := Lib.hid hW1; have HBT := Lib.hid hbt; have HL0 := Lib.hid hl0
   clear ho hx hs hf hbl hz1 hq1 hs1 hW1 hbt HR HBW1 XZ1 HSZ hl0
   go_wp2_with fail
   rw [HW1.out]
   try simp only [HBT.out]
   clear HW1
   refine (rnumsR_any HR1.out HS1.out).mono ?_
   rintro e V ⟨v0, l1, r2, rfl, ho, hl1, hx, hs, hf⟩
   obtain ⟨A1, d1, ev, -, -, -⟩ := ho.readsI.form
   subst ev
   have hxt : Blk V bt 31 #[.slice A0 l0.length d0, .slice none 0 0, .slice none 0 0, .slice none 0 0, .slice none 0 0, .slice none 0 0] := hf.blk XT1.out nbt
   have q0 := PT1.out.rd HR1.out hf
   have q1 : PTab V p3 (.slice A0 l0.length d0) (.slice A1 l1.length d1) (.slice none 0 0) (.slice none 0 0) (.slice none 0 0) (.slice none 0 0) ⟨l0, l1, [], [], [], []⟩ := { q0 with l := ho.anyB HS1.out }
   obtain ⟨W2, hW2⟩ : ∃ W, V.setCell ⟨bt, 1, none⟩ (.slice A1 l1.length d1) = W := ⟨_, rfl⟩
   have hft : Fr (fun q => q = bt) V W2 := by rw [<- hW2]; exact (Fr.refl (fun q => q = bt) V).set_ (p := ⟨bt, 1, none⟩) (.inl rfl) _
   have PT2 := Lib.hid (q1.one hft hxt (by decide))
   have XT2 : Hid (Blk W2 bt 31 #[.slice A0 l0.length d0, .slice A1 l1.length d1, .slice none 0 0, .slice none 0 0, .slice none 0 0, .slice none 0 0]) := Lib.hid (by rw [<- hW2]; simpa using hxt.set_ 1 (.slice A1 l1.length d1))
   have HR2 := Lib.hid (hs.low (hft.below (B := p3) (by have := HS1.out; have := hf.size; omega) (fun q hq e => by have e' : q = bt := e; omega)))
   have HX2 := Lib.hid hx
   have hs2 : p3 <= W2.heap.size := by have := HS1.out; have := hf.size; have := hft.size; omega
   have HS2 := Lib.hid hs2
   have HB2' : Hid (Below p1 W0 W2) := Lib.hid ((HB1'.out.trans (hf.below (B := p1) (by have := HS1.out; have := HPT.out; have := HP2.out; omega) (fun q hq e => by have e' : q = p2 := e; have := HP2.out; omega))).trans (hft.below (B := p1) (by have := HS1.out; have := hf.size; have := HPT.out; have := HP2.out; omega) (fun q hq e => by have e' : q = bt := e; have := HP2.out; have := HPT.out; omega)))
   have k1 := hxt.cell 1; have f1 := hxt.frozen 1
   simp only [List.getElem?_toArray, List.getElem?_cons_zero, List.getElem?_cons_succ] at k1
   have HW2 := Lib.hid hW2; have HL1 := Lib.hid hl1
   clear ho hx hs hf hxt q0 q1 hft hs2 hW2 hl1 HR1 HB1' HS1 PT1 XT1
   go_wp2_with fail
   rw [HW2.out]
   clear k1 f1 HW2
   refine (rrowsR_any HR2.out HS2.out).mono ?_
   rintro e V ⟨v0, l2, r3, rfl, ho, hl2, hx, hs, hf⟩
   obtain ⟨A2, d2, ev, -, -⟩ := ho.form'
   subst ev
   have hxt : Blk V bt 31 #[.slice A0 l0.length d0, .slice A1 l1.length d1, .slice none 0 0, .slice none 0 0, .slice none 0 0, .slice none 0 0] := hf.blk XT2.out nbt
   have q0 := PT2.out.rd HR2.out hf
   have q1 : PTab V p3 (.slice A0 l0.length d0) (.slice A1 l1.length d1) (.slice A2 l2.length d2) (.slice none 0 0) (.slice none 0 0) (.slice none 0 0) ⟨l0, l1, l2, [], [], []⟩ := { q0 with bn := ho.more' HS2.out }
   obtain ⟨W3, hW3⟩ : ∃ W, V.setCell ⟨bt, 2, none⟩ (.slice A2 l2.length d2) = W := ⟨_, rfl⟩
   have hft : Fr (fun q => q = bt) V W3 := by rw [<- hW3]; exact (Fr.refl (fun q => q = bt) V).set_ (p := ⟨bt, 2, none⟩) (.inl rfl) _
   have PT3 := Lib.hid (q1.one hft hxt (by decide))
   have XT3 : Hid (Blk W3 bt 31 #[.slice A0 l0.length d0, .slice A1 l1.length d1, .slice A2 l2.length d2, .slice none 0 0, .slice none 0 0, .slice none 0 0]) := Lib.hid (by rw [<- hW3]; simpa using hxt.set_ 2 (.slice A2 l2.length d2))
   have HR3 := Lib.hid (hs.low (hft.below (B := p3) (by have := HS2.out; have := hf.size; omega) (fun q hq e => by have e' : q = bt := e; omega)))
   have HX3 := Lib.hid hx
   have hs3 : p3 <= W3.heap.size := by have := HS2.out; have := hf.size; have := hft.size; omega
   have HS3 := Lib.hid hs3
   have HB3' : Hid (Below p1 W0 W3) := Lib.hid ((HB2'.out.trans (hf.below (B := p1) (by have := HS2.out; have := HPT.out; have := HP2.out; omega) (fun q hq e => by have e' : q = p2 := e; have := HP2.out; omega))).trans (hft.below (B := p1) (by have := HS2.out; have := hf.size; have := HPT.out; have := HP2.out; omega) (fun q hq e => by have e' : q = bt := e; have := HP2.out; have := HPT.out; omega)))
   have k2 := hxt.cell 2; have f2 := hxt.frozen 2
   simp only [List.getElem?_toArray, List.getElem?_cons_zero, List.getElem?_cons_succ] at k2
   have HW3 := Lib.hid hW3; have HL2 := Lib.hid hl2
   clear ho hx hs hf hxt q0 q1 hft hs3 hW3 hl2 HR2 HB2' HS2 PT2 XT2
   go_wp2_with fail
   rw [HW3.out]
   clear k2 f2 HW3
   refine (rnumsR_any HR3.out HS3.out).mono ?_
   rintro e V ⟨v0, l3, r4, rfl, ho, hl3, hx, hs, hf⟩
   obtain ⟨A3, d3, ev, -, -, -⟩ := ho.readsI.form
   subst ev
   have hxt : Blk V bt 31 #[.slice A0 l0.length d0, .slice A1 l1.length d1, .slice A2 l2.length d2, .slice none 0 0, .slice none 0 0, .slice none 0 0] := hf.blk XT3.out nbt
   have q0 := PT3.out.rd HR3.out hf
   have q1 : PTab V p3 (.slice A0 l0.length d0) (.slice A1 l1.length d1) (.slice A2 l2.length d2) (.slice A3 l3.length d3) (.slice none 0 0) (.slice none 0 0) ⟨l0, l1, l2, l3, [], []⟩ := { q0 with bo := ho.anyB HS3.out }
   obtain ⟨W4, hW4⟩ : ∃ W, V.setCell ⟨bt, 3, none⟩ (.slice A3 l3.length d3) = W := ⟨_, rfl⟩
   have hft : Fr (fun q => q = bt) V W4 := by rw [<- hW4]; exact (Fr.refl (fun q => q = bt) V).set_ (p := ⟨bt, 3, none⟩) (.inl rfl) _
   have PT4 := Lib.hid (q1.one hft hxt (by decide))
   have XT4 : Hid (Blk W4 bt 31 #[.slice A0 l0.length d0, .slice A1 l1.length d1, .slice A2 l2.length d2, .slice A3 l3.length d3, .slice none 0 0, .slice none 0 0]) := Lib.hid (by rw [<- hW4]; simpa using hxt.set_ 3 (.slice A3 l3.length d3))
   have HR4 := Lib.hid (hs.low (hft.below (B := p3) (by have := HS3.out; have := hf.size; omega) (fun q hq e => by have e' : q = bt := e; omega)))
   have HX4 := Lib.hid hx
   have hs4 : p3 <= W4.heap.size := by have := HS3.out; have := hf.size; have := hft.size; omega
   have HS4 := Lib.hid hs4
   have HB4' : Hid (Below p1 W0 W4) := Lib.hid ((HB3'.out.trans (hf.below (B := p1) (by have := HS3.out; have := HPT.out; have := HP2.out; omega) (fun q hq e => by have e' : q = p2 := e; have := HP2.out; omega))).trans (hft.below (B := p1) (by have := HS3.out; have := hf.size; have := HPT.out; have := HP2.out; omega) (fun q hq e => by have e' : q = bt := e; have := HP2.out; have := HPT.out; omega)))
   have k3 := hxt.cell 3; have f3 := hxt.frozen 3
   simp only [List.getElem?_toArray, List.getElem?_cons_zero, List.getElem?_cons_succ] at k3
   have HW4 := Lib.hid hW4; have HL3 := Lib.hid hl3
   clear ho hx hs hf hxt q0 q1 hft hs4 hW4 hl3 HR3 HB3' HS3 PT3 XT3
   go_wp2_with fail
   rw [HW4.out]
   clear k3 f3 HW4
   refine (rrowsR_any HR4.out HS4.out).mono ?_
   rintro e V ⟨v0, l4, r5, rfl, ho, hl4, hx, hs, hf⟩
   obtain ⟨A4, d4, ev, -, -⟩ := ho.form'
   subst ev
   have hxt : Blk V bt 31 #[.slice A0 l0.length d0, .slice A1 l1.length d1, .slice A2 l2.length d2, .slice A3 l3.length d3, .slice none 0 0, .slice none 0 0] := hf.blk XT4.out nbt
   have q0 := PT4.out.rd HR4.out hf
   have q1 : PTab V p3 (.slice A0 l0.length d0) (.slice A1 l1.length d1) (.slice A2 l2.length d2) (.slice A3 l3.length d3) (.slice A4 l4.length d4) (.slice none 0 0) ⟨l0, l1, l2, l3, l4, []⟩ := { q0 with fn := ho.more' HS4.out }
   obtain ⟨W5, hW5⟩ : ∃ W, V.setCell ⟨bt, 4, none⟩ (.slice A4 l4.length d4) = W := ⟨_, rfl⟩
   have hft : Fr (fun q => q = bt) V W5 := by rw [<- hW5]; exact (Fr.refl (fun q => q = bt) V).set_ (p := ⟨bt, 4, none⟩) (.inl rfl) _
   have PT5 := Lib.hid (q1.one hft hxt (by decide))
   have XT5 : Hid (Blk W5 bt 31 #[.slice A0 l0.length d0, .slice A1 l1.length d1, .slice A2 l2.length d2, .slice A3 l3.length d3, .slice A4 l4.length d4, .slice none 0 0]) := Lib.hid (by rw [<- hW5]; simpa using hxt.set_ 4 (.slice A4 l4.length d4))
   have HR5 := Lib.hid (hs.low (hft.below (B := p3) (by have := HS4.out; have := hf.size; omega) (fun q hq e => by have e' : q = bt := e; omega)))
   have HX5 := Lib.hid hx
   have hs5 : p3 <= W5.heap.size := by have := HS4.out; have := hf.size; have := hft.size; omega
   have HS5 := Lib.hid hs5
   have HB5' : Hid (Below p1 W0 W5) := Lib.hid ((HB4'.out.trans (hf.below (B := p1) (by have := HS4.out; have := HPT.out; have := HP2.out; omega) (fun q hq e => by have e' : q = p2 := e; have := HP2.out; omega))).trans (hft.below (B := p1) (by have := HS4.out; have := hf.size; have := HPT.out; have := HP2.out; omega) (fun q hq e => by have e' : q = bt := e; have := HP2.out; have := HPT.out; omega)))
   have k4 := hxt.cell 4; have f4 := hxt.frozen 4
   simp only [List.getElem?_toArray, List.getElem?_cons_zero, List.getElem?_cons_succ] at k4
   have HW5 := Lib.hid hW5; have HL4 := Lib.hid hl4
   clear ho hx hs hf hxt q0 q1 hft hs5 hW5 hl4 HR4 HB4' HS4 PT4 XT4
   go_wp2_with fail
   rw [HW5.out]
   clear k4 f4 HW5
   refine (rcountR_any HR5.out).mono ?_
   rintro e V ⟨k, rfl, hk1, hk2, hs, hf⟩
   have HK := Lib.hid hk2
   have HI : Hid (LdInv W0 V p1 p2 p3 bt (m % 8) k (manyR r5).2 (.slice A0 l0.length d0) (.slice A1 l1.length d1) (.slice A2 l2.length d2) (.slice A3 l3.length d3) (.slice A4 l4.length d4) ⟨l0, l1, l2, l3, l4, []⟩ 0) := Lib.hid ⟨none, 0, [], (manyR r5).2, PT5.out.rd HR5.out hf, hf.blk XT5.out nbt, rfl, RdInv.start _ _, hs, HB5'.out.trans (hf.below (B := p1) (by have := HS5.out; have := HPT.out; have := HP2.out; omega) (fun q hq e => by have e' : q = p2 := e; have := HP2.out; omega))⟩
   clear hk2 hs hf PT5 XT5 HR5 HB5' HS5
   go_wp2_with fail
   go_loopw [8] (fun vi wr => ∃ i : Nat, vi = .int .i64 (i : Int) /\ i <= k /\ Hid (LdInv W0 wr p1 p2 p3 bt (m % 8) k (manyR r5).2 (.slice A0 l0.length d0) (.slice A1 l1.length d1) (.slice A2 l2.length d2) (.slice A3 l3.length d3) (.slice A4 l4.length d4) ⟨l0, l1, l2, l3, l4, []⟩ i)) (fun vi _ => k - (intOf vi).toNat)
   case atStart => exact ⟨0, rfl, Nat.zero_le _, HI⟩
   case round =>
    clear HI
    obtain ⟨i, rfl, hi, HI⟩ := hrel
    have i0 : (0 : Int) <= (i : Int) := Int.natCast_nonneg _
    obtain ⟨UA, uc, fe, r, hP, hX, hl, hinv, hst, hbw⟩ := HI.out
    obtain ⟨A, cq, bq, bad, h1, h2, h3⟩ := id hst
    have y0 := h1.x.cell 0; have y1 := h1.x.cell 1
    simp only [List.getElem?_toArray, List.getElem?_cons_zero, List.getElem?_cons_succ] at y0 y1
    have HP := Lib.hid hP; have HX := Lib.hid hX; have HINV := Lib.hid hinv; have HST := Lib.hid hst; have HB9 := Lib.hid hbw; have HLE := Lib.hid hl; have H2 := Lib.hid h2; have H3 := Lib.hid h3
    have XZ9 : Hid (Blk wr bz 31 #[.slice none 0 0, .slice none 0 0, .slice none 0 0, .slice none 0 0, .slice none 0 0, .slice none 0 0]) := Lib.hid (Blk.below XZ.out HB9.out (by have := HP1.out; omega))
    have HSIX : Hid (i = k \/ r = none -> (∀ L6, r = some L6 -> rdT (some 100000) (numsB (bs.take m)) = some (⟨l0, l1, l2, l3, l4, fe⟩, L6)) /\ (r = none -> rdT (some 100000) (numsB (bs.take m)) = none)) := Lib.hid (fun he => six_rd HX1.out HX2.out HX3.out HX4.out HX5.out (rdOut_of HK.out HINV.out he))
    obtain ⟨nr, hnr⟩ : ∃ q, bq.length = q := ⟨_, rfl⟩
    rw [hnr] at y0
    have HNR := Lib.hid hnr
    have r0 : (0 : Int) <= (nr : Int) := Int.natCast_nonneg _
    clear hP hX hinv hst hbw hl h1 h2 h3 HI hnr
    by_cases hlt : i < k
    ·have i1 : (i : Int) < (k : Int) := by omega
     cases bad with
     | true =>
       have hrn : r = none := by
        cases r with
        | none => rfl
        | some L => have := (H3.out L rfl).1; cases this
       have HNO : Hid (∀ t, ¬ refP bs t) := Lib.hid (ref_none HL.out ((HSIX.out (.inr hrn)).2 hrn))
       have c0 := XZ9.out.cell 0
       have c1 := XZ9.out.cell 1
       have c2 := XZ9.out.cell 2
       have c3 := XZ9.out.cell 3
       have c4 := XZ9.out.cell 4
       have c5 := XZ9.out.cell 5
       have f0 := XZ9.out.frozen 0
       have f1 := XZ9.out.frozen 1
       have f2 := XZ9.out.frozen 2
       have f3 := XZ9.out.frozen 3
       have f4 := XZ9.out.frozen 4
       have f5 := XZ9.out.frozen 5
       simp only [List.getElem?_toArray, List.getElem?_cons_zero, List.getElem?_cons_succ] at c0 c1 c2 c3 c4 c5
       go_wp2_with fail
       refine bodyPost_ret (v := .tuple #[.agg #[.slice none 0 0, .slice none 0 0, .slice none 0 0, .slice none 0 0, .slice none 0 0, .slice none 0 0], .bool false]) (by simp [results, Try.results21, go_sem, c0, c1, c2, c3, c4, c5]) rfl ?_
       refine ⟨.inr ⟨HNO.out, rfl⟩, ?_⟩
       try rw [HBZ.out]
       exact below_six (HB0.out.trans (HB9.out.mono (by have := HZ0.out; have := HP1.out; omega))) (Nat.le_refl _) _ _ _ _ _ _
     | false =>
       cases r with
       | none => have := H2.out rfl; cases this
       | some L1 =>
         have HSW : Hid (p3 <= wr.heap.size) := Lib.hid (by have := HX.out.lt; omega)
         go_wp2_with fail
         clear y0 y1
         have hb : Below wr.heap.size wr wr.drew := (Below.refl _ _).drew
         have hS : (fun W : World => W.cell? ⟨bt, 5, none⟩ = some (.slice UA fe.length uc)) wr.drew := bel_m hb (HX.out.cell 5)
         refine region_x 9 (fun W : World => W.cell? ⟨bt, 5, none⟩ = some (.slice UA fe.length uc)) (by kernel_rfl) ?_
         generalize wr.drew = V0 at *
         refine tkx (i := 0) (v := ?_) hS ?_ ?_
         rotate_left
         ·rintro w' s0'
          go_simp
          try with_reducible rfl
         try simp only [Act.put, zq1, zq2, zq3, zq4, zq5, zq6]
         refine tkx (i := 1) (v := ?_) hS ?_ ?_
         rotate_left
         ·rintro w' s0'
          go_simp
          try with_reducible rfl
         try simp only [Act.put, zq1, zq2, zq3, zq4, zq5, zq6]
         refine tkx (i := 2) (v := ?_) hS ?_ ?_
         rotate_left
         ·rintro w' s0'
          go_simp
          try with_reducible rfl
         try simp only [Act.put, zq1, zq2, zq3, zq4, zq5, zq6]
         refine tkx (i := 3) (v := ?_) hS ?_ ?_
         rotate_left
         ·rintro w' s0'
          go_simp
          try with_reducible rfl
         try simp only [Act.put, zq1, zq2, zq3, zq4, zq5, zq6]
         refine anyX_g (i := 4) (by kernel_rfl) (by decide) rfl (by rfl) ?_
         intro K hK
         try simp only [zq1, zq2, zq3]
         refine wp_enterE #[.pointer (some ⟨p2, 0, none⟩)] Try.func44 (by kernel_rfl) (by kernel_rfl) ?_ (rvecsR_any (HST.out.below hb) (by have := (HST.out.below hb).lb; have := HPT.out; have := HB9.out.size; have := hb.size; have := HSW.out; omega)) ?_
         ·go_simp
         rintro e V1 ⟨v1, q, rq, rfl, ho, hlq, hx, hs, hf⟩
         obtain ⟨QA, qc, ev, -, -, -⟩ := (ho.reads encV_len (by decide)).form
         subst ev
         have hP1 := (HP.out.below hb).rd (HST.out.below hb) hf
         have hX1 : Blk V1 bt 31 #[.slice A0 l0.length d0, .slice A1 l1.length d1, .slice A2 l2.length d2, .slice A3 l3.length d3, .slice A4 l4.length d4, .slice UA fe.length uc] := hf.blk (Blk.below HX.out hb HX.out.lt) nbt
         have hbw1 : Below p1 W0 V1 := (HB9.out.trans (hb.mono (by have := HSW.out; have := HPT.out; have := HP2.out; omega))).trans (hf.below (B := p1) (by have := HSW.out; have := HPT.out; have := HP2.out; have := hb.size; omega) (fun z hz e => by have e' : z = p2 := e; have := HP2.out; omega))
         have hv0 : p3 <= V0.heap.size := Nat.le_trans HSW.out hb.size
         have hrow : V1.ownsRow p3 45 3 (.slice QA q.length qc) q.length (q.flatMap encV) := ownsRow_any ho hv0
         have hz1 : p3 <= V1.heap.size := Nat.le_trans hv0 hf.size
         replace hS : (fun W : World => W.cell? ⟨bt, 5, none⟩ = some (.slice UA fe.length uc)) V1 := hX1.cell 5
         have HXQ := Lib.hid hx; have HS1q := Lib.hid hs
         clear hb ho hx hs hf hv0
         refine ⟨_, rfl, ?_⟩
         refine hK _ _ hS ?_
         clear hK
         try simp only [Act.put, zq1, zq2, zq3, zq4, zq5, zq6]
         refine anyX_g (i := 5) (by kernel_rfl) (by decide) rfl (by rfl) ?_
         intro K hK
         try simp only [zq1, zq2, zq3]
         go_simp
         obtain ⟨V2, eV⟩ : ∃ W', V1.alloc (.cells #[.slice QA q.length qc] 46) = W' := ⟨_, rfl⟩
         have hbn : Below V1.heap.size V1 V2 := by rw [<- eV]; exact (Below.refl _ _).alloc (Nat.le_refl _) _
         have xb : Blk V2 V1.heap.size 46 #[.slice QA q.length qc] := by rw [<- eV]; exact Blk.new _ _ _
         rw [eV]
         clear eV
         have hP2 := hP1.below hbn
         have hX2 := Blk.below hX1 hbn hX1.lt
         have hrow2 : V2.ownsRow p3 45 3 (.slice QA q.length qc) q.length (q.flatMap encV) := OwnE.below_top (enc := encV) hrow hbn
         have hbw2 : Below p1 W0 V2 := hbw1.trans (hbn.mono (by have := HPT.out; have := HP2.out; omega))
         have HS2q := Lib.hid (HS1q.out.below hbn)
         have hz2 : p3 <= V2.heap.size := Nat.le_trans hz1 hbn.size
         replace hS : (fun W : World => W.cell? ⟨bt, 5, none⟩ = some (.slice UA fe.length uc)) V2 := hX2.cell 5
         obtain ⟨pb, hpb⟩ : ∃ p, p = V1.heap.size := ⟨_, rfl⟩
         rw [<- hpb] at xb ⊢
         clear hbn hP1 hX1 hrow hbw1 HS1q hz1 hpb
         refine hK _ _ hS ?_
         clear hK
         try simp only [Act.put, zq1, zq2, zq3, zq4, zq5, zq6]
         refine anyX_g (i := 6) (by kernel_rfl) (by decide) rfl (by rfl) ?_
         intro K hK
         try simp only [zq1, zq2, zq3]
         obtain ⟨vals, hvals, hpush⟩ := hP2.fe.pushV
         have hvals1 := hvals
         unfold OwnE at hvals1
         rw [flat1] at hvals1
         have hap : Apart (.slice UA fe.length uc) (.slice QA q.length qc) := by
          cases hv : (Value.slice UA fe.length uc).ownBlock with
          | none => exact .inl hv
          | some z => exact .inr (.inr (fun e => rows_ne hvals1 hrow2 (by decide) z hv (by rw [<- e]; exact hv)))
         refine wp_pushK rfl (.tmp 70) (.tmp 73) 27 46 rfl 1 24 _ Try.underlying27 info_vrow rfl (by omega) (by omega) p3 (.slice UA fe.length uc) fe.length vals (by rfl) hvals1 pb (by rfl) #[.slice QA q.length qc] rfl xb (by simp [Value.oneCell']) (by have := HLE.out; omega) hz2 ?_
         intro g7 cap7 V4 q1 q2 q3
         have hP : PushedE (fun u : Value => [u]) 46 1 p3 V2 V4 (.slice UA fe.length uc) g7 cap7 fe.length vals (.slice QA q.length qc) := pushedE_of hvals1 q1 q2 q3
         have hll := hpush _ _ _ _ _ _ hP hrow2 hap
         rw [<- xssW_snoc] at hll
         have hP4 : PTab V4 p3 (.slice A0 l0.length d0) (.slice A1 l1.length d1) (.slice A2 l2.length d2) (.slice A3 l3.length d3) (.slice A4 l4.length d4) (sl g7 (fe.length + 1) cap7) ⟨l0, l1, l2, l3, l4, fe ++ [q]⟩ := hP2.grown q2 hvals1 (by rw [List.length_append]; exact hll)
         have hX4 : Blk V4 bt 31 #[.slice A0 l0.length d0, .slice A1 l1.length d1, .slice A2 l2.length d2, .slice A3 l3.length d3, .slice A4 l4.length d4, .slice UA fe.length uc] := blkTurn hX2 hvals1 q2 (by decide)
         have hlv : ∀ z, (Value.slice UA fe.length uc).ownBlock = some z -> p3 <= z := fun z hz => (hvals1.lt z hz).1
         have hbw4 : Below p1 W0 V4 := hbw2.grown q2 (by have := HPT.out; have := HP2.out; omega) (fun z hz => by have := hlv z hz; have := HPT.out; have := HP2.out; omega)
         have HS4 := Lib.hid (HS2q.out.low ((Below.refl p3 V2).grown q2 hz2 hlv))
         replace hS : (fun W : World => W.cell? ⟨bt, 5, none⟩ = some (.slice UA fe.length uc)) V4 := hX4.cell 5
         have HP4 := Lib.hid hP4; have HX4 := Lib.hid hX4; have HB4 := Lib.hid hbw4
         clear hvals hpush hvals1 hap q1 q2 q3 hP hll hP4 hX4 hbw4 hlv hP2 hX2 hrow2 hbw2 HS2q hz2 xb
         refine hK _ _ hS ?_
         clear hK
         try simp only [Act.put, zq1, zq2, zq3, zq4, zq5, zq6]
         refine anyX_g (i := 7) (by kernel_rfl) (by decide) rfl (by rfl) ?_
         intro K hK
         try simp only [zq1, zq2, zq3]
         go_simp
         refine hK _ _ hS ?_
         clear hK
         try simp only [Act.put, zq1, zq2, zq3, zq4, zq5, zq6]
         refine anyX_g (i := 8) (by kernel_rfl) (by decide) rfl (by rfl) ?_
         intro K hK
         try simp only [zq1, zq2, zq3]
         go_simp
         refine hK _ _ hS ?_
         clear hK
         try simp only [Act.put, zq1, zq2, zq3, zq4, zq5, zq6]
         have k5 := HX4.out.cell 5; have f5 := HX4.out.frozen 5
         simp only [List.getElem?_toArray, List.getElem?_cons_zero, List.getElem?_cons_succ] at k5
         refine anyX_last (by kernel_rfl) (by kernel_rfl) rfl rfl ?_
         try simp only [zq1, zq2, zq3]
         go_simp
         try apply_assumption
         clear hS
         go_wp2_with fail
         have hft : Fr (fun z => z = bt) V4 (V4.setCell ⟨bt, 5, none⟩ (sl g7 (fe.length + 1) cap7)) := (Fr.refl (fun z => z = bt) V4).set_ (p := ⟨bt, 5, none⟩) (.inl rfl) _
         have hsz4 : bt < V4.heap.size := HX4.out.lt
         refine ⟨⟨i + 1, by go_num, by omega, Lib.hid ⟨some ⟨g7, 0, none⟩, cap7, fe ++ [q], rq, ?_, ?_, by rw [List.length_append, HLE.out]; rfl, HINV.out.step hlt HXQ.out, HS4.out.low (hft.below (B := p3) (by omega) (fun z hz e => by have e' : z = bt := e; omega)), HB4.out.trans (hft.below (B := p1) (by have := HPT.out; have := HP2.out; omega) (fun z hz e => by have e' : z = bt := e; have := HPT.out; have := HP2.out; omega))⟩⟩, by simp [intOf]; omega⟩
         ·rw [List.length_append]; exact HP4.out.one hft HX4.out (by decide)
         ·rw [List.length_append]; simpa using HX4.out.set_ 5 (sl g7 (fe.length + 1) cap7)
    ·obtain rfl : k = i := by omega
     cases bad with
     | true =>
       have hrn : r = none := by
        cases r with
        | none => rfl
        | some L => have := (H3.out L rfl).1; cases this
       have HNO : Hid (∀ t, ¬ refP bs t) := Lib.hid (ref_none HL.out ((HSIX.out (.inr hrn)).2 hrn))
       have c0 := XZ9.out.cell 0
       have c1 := XZ9.out.cell 1
       have c2 := XZ9.out.cell 2
       have c3 := XZ9.out.cell 3
       have c4 := XZ9.out.cell 4
       have c5 := XZ9.out.cell 5
       have f0 := XZ9.out.frozen 0
       have f1 := XZ9.out.frozen 1
       have f2 := XZ9.out.frozen 2
       have f3 := XZ9.out.frozen 3
       have f4 := XZ9.out.frozen 4
       have f5 := XZ9.out.frozen 5
       simp only [List.getElem?_toArray, List.getElem?_cons_zero, List.getElem?_cons_succ] at c0 c1 c2 c3 c4 c5
       go_wp2_with fail
       refine bodyPost_ret (v := .tuple #[.agg #[.slice none 0 0, .slice none 0 0, .slice none 0 0, .slice none 0 0, .slice none 0 0, .slice none 0 0], .bool false]) (by simp [results, Try.results21, go_sem, c0, c1, c2, c3, c4, c5]) rfl ?_
       refine ⟨.inr ⟨HNO.out, rfl⟩, ?_⟩
       try rw [HBZ.out]
       exact below_six (HB0.out.trans (HB9.out.mono (by have := HZ0.out; have := HP1.out; omega))) (Nat.le_refl _) _ _ _ _ _ _
     | false =>
       cases r with
       | none => have := H2.out rfl; cases this
       | some L6 =>
         have HT6 := Lib.hid ((HSIX.out (.inl rfl)).1 L6 rfl)
         obtain ⟨-, h38, h3L⟩ := H3.out L6 rfl
         have H38 := Lib.hid h38; have H3L := Lib.hid h3L
         clear h38 h3L HSIX
         rcases Nat.eq_zero_or_pos nr with hn0 | hn0
         rotate_left
         ·have n1 : (0 : Int) < (nr : Int) := by omega
          have HNO : Hid (∀ t, ¬ refP bs t) := Lib.hid (ref_left HL.out HT6.out HNR.out H38.out H3L.out hn0)
          have c0 := XZ9.out.cell 0
          have c1 := XZ9.out.cell 1
          have c2 := XZ9.out.cell 2
          have c3 := XZ9.out.cell 3
          have c4 := XZ9.out.cell 4
          have c5 := XZ9.out.cell 5
          have f0 := XZ9.out.frozen 0
          have f1 := XZ9.out.frozen 1
          have f2 := XZ9.out.frozen 2
          have f3 := XZ9.out.frozen 3
          have f4 := XZ9.out.frozen 4
          have f5 := XZ9.out.frozen 5
          simp only [List.getElem?_toArray, List.getElem?_cons_zero, List.getElem?_cons_succ] at c0 c1 c2 c3 c4 c5
          go_wp2_with fail
          refine bodyPost_ret (v := .tuple #[.agg #[.slice none 0 0, .slice none 0 0, .slice none 0 0, .slice none 0 0, .slice none 0 0, .slice none 0 0], .bool false]) (by simp [results, Try.results21, go_sem, c0, c1, c2, c3, c4, c5]) rfl ?_
          refine ⟨.inr ⟨HNO.out, rfl⟩, ?_⟩
          try rw [HBZ.out]
          exact below_six (HB0.out.trans (HB9.out.mono (by have := HZ0.out; have := HP1.out; omega))) (Nat.le_refl _) _ _ _ _ _ _
         subst hn0
         have k0 := HX.out.cell 0
         have k1 := HX.out.cell 1
         have k2 := HX.out.cell 2
         have k3 := HX.out.cell 3
         have k4 := HX.out.cell 4
         have k5 := HX.out.cell 5
         simp only [List.getElem?_toArray, List.getElem?_cons_zero, List.getElem?_cons_succ] at k0 k1 k2 k3 k4 k5
         go_wp2_with fail
         refine (rright_any HP.out.tabR (by have := HL1.out; show l1.length <= _; omega)).mono ?_
         intro e V hrr
         unfold RrO at hrr
         obtain ⟨rb, rfl, hrb, hbr⟩ := hrr
         clear k0 k1 k2 k3 k4 k5 y0 y1
         have HRB := Lib.hid hrb
         have HP5 := Lib.hid (HP.out.below hbr); have HX5 := Lib.hid (Blk.below HX.out hbr HX.out.lt)
         replace XZ9 := Lib.hid (Blk.below XZ9.out hbr XZ9.out.lt)
         replace HB9 := Lib.hid (HB9.out.trans (hbr.mono (by have := HX.out.lt; have := HPT.out; have := HP2.out; omega)))
         clear hrb hbr
         cases rb with
         | false =>
           have HNO : Hid (∀ t, ¬ refP bs t) := Lib.hid (ref_wrong HL.out HT6.out (fun e => by have := HRB.out.2 e; cases this))
           clear HRB
           have c0 := XZ9.out.cell 0
           have c1 := XZ9.out.cell 1
           have c2 := XZ9.out.cell 2
           have c3 := XZ9.out.cell 3
           have c4 := XZ9.out.cell 4
           have c5 := XZ9.out.cell 5
           have f0 := XZ9.out.frozen 0
           have f1 := XZ9.out.frozen 1
           have f2 := XZ9.out.frozen 2
           have f3 := XZ9.out.frozen 3
           have f4 := XZ9.out.frozen 4
           have f5 := XZ9.out.frozen 5
           simp only [List.getElem?_toArray, List.getElem?_cons_zero, List.getElem?_cons_succ] at c0 c1 c2 c3 c4 c5
           go_wp2_with fail
           refine bodyPost_ret (v := .tuple #[.agg #[.slice none 0 0, .slice none 0 0, .slice none 0 0, .slice none 0 0, .slice none 0 0, .slice none 0 0], .bool false]) (by simp [results, Try.results21, go_sem, c0, c1, c2, c3, c4, c5]) rfl ?_
           refine ⟨.inr ⟨HNO.out, rfl⟩, ?_⟩
           try rw [HBZ.out]
           exact below_six (HB0.out.trans (HB9.out.mono (by have := HZ0.out; have := HP1.out; omega))) (Nat.le_refl _) _ _ _ _ _ _
         | true =>
           have HYES := Lib.hid (ref_there HL.out HE1.out HT6.out H38.out H3L.out HNR.out (HRB.out.1 rfl))
           clear HRB
           have k0 := HX5.out.cell 0
           have k1 := HX5.out.cell 1
           have k2 := HX5.out.cell 2
           have k3 := HX5.out.cell 3
           have k4 := HX5.out.cell 4
           have k5 := HX5.out.cell 5
           simp only [List.getElem?_toArray, List.getElem?_cons_zero, List.getElem?_cons_succ] at k0 k1 k2 k3 k4 k5
           have c0 := XZ9.out.cell 0
           have c1 := XZ9.out.cell 1
           have c2 := XZ9.out.cell 2
           have c3 := XZ9.out.cell 3
           have c4 := XZ9.out.cell 4
           have c5 := XZ9.out.cell 5
           have f0 := XZ9.out.frozen 0
           have f1 := XZ9.out.frozen 1
           have f2 := XZ9.out.frozen 2
           have f3 := XZ9.out.frozen 3
           have f4 := XZ9.out.frozen 4
           have f5 := XZ9.out.frozen 5
           simp only [List.getElem?_toArray, List.getElem?_cons_zero, List.getElem?_cons_succ] at c0 c1 c2 c3 c4 c5
           go_wp2_with fail
           refine bodyPost_ret (v := .tuple #[.agg #[.slice A0 l0.length d0, .slice A1 l1.length d1, .slice A2 l2.length d2, .slice A3 l3.length d3, .slice A4 l4.length d4, .slice UA fe.length uc], .bool true]) (by simp [results, Try.results21, go_sem, c0, c1, c2, c3, c4, c5]) rfl ?_
           refine ⟨.inl ⟨_, _, _, _, _, _, _, HYES.out, rfl, (HP5.out.one (fr_six bz V _ _ _ _ _ _) XZ9.out (by decide)).tabR⟩, ?_⟩
           try rw [HBZ.out]
           exact below_six (HB0.out.trans (HB9.out.mono (by have := HZ0.out; have := HP1.out; omega))) (Nat.le_refl _) _ _ _ _ _ _
end Go.Proofs.Ytjkcglgkdclidaa
