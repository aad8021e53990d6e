/- net.ways. net.alike. -/
import Derived.Test.YtjkcglgkdclidaaVMiniG
import Derived.Test.YtjkcglgkdclidaaVAny
set_option linter.unusedVariables false
set_option linter.unusedSimpArgs false
namespace Go.Proofs.Ytjkcglgkdclidaa
open Go Go.RowKit Go.Proofs
def lastD (d : Nat -> Nat) : Nat -> Nat -> Int
 | 0, _ => -1
 | j + 1, t => if d j = t then (j : Int) else lastD d j t
theorem lastD_cases (d : Nat -> Nat) (t : Nat) : ∀ j, (lastD d j t = -1 /\ ∀ i, i < j -> d i ≠ t) \/ ∃ i, i < j /\ lastD d j t = (i : Int) /\ d i = t /\ ∀ i', i < i' -> i' < j -> d i' ≠ t
 | 0 => .inl ⟨rfl, fun i hi => absurd hi (Nat.not_lt_zero i)⟩
 | j + 1 => by
   unfold lastD
   by_cases e : d j = t
   ·rw [if_pos e]
    exact .inr ⟨j, Nat.lt_succ_self j, rfl, e, fun i' h1 h2 => by omega⟩
   ·rw [if_neg e]
    rcases lastD_cases d t j with ⟨h1, h2⟩ | ⟨i, h1, h2, h3, h4⟩
    ·refine .inl ⟨h1, fun i hi => ?_⟩
     rcases Nat.lt_or_ge i j with q | q
     ·exact h2 i q
     ·have : i = j := by omega
      subst this; exact e
    ·refine .inr ⟨i, by omega, h2, h3, fun i' h5 h6 => ?_⟩
     rcases Nat.lt_or_ge i' j with q | q
     ·exact h4 i' h5 q
     ·have : i' = j := by omega
      subst this; exact e
def lastL (n : Nat) (d : Nat -> Nat) (j : Nat) : List Int := (List.range n).map fun t => lastD d j t
def otherL (n : Nat) (d : Nat -> Nat) (j : Nat) : List Int := (List.range n).map fun i => if i < j then lastD d i (d i) else -1
theorem lastL_zero (n : Nat) (d : Nat -> Nat) : lastL n d 0 = List.replicate n (-1) := by
 apply List.ext_getElem
 ·simp [lastL]
 ·intro i h1 h2; simp [lastL, lastD]
theorem otherL_zero (n : Nat) (d : Nat -> Nat) : otherL n d 0 = List.replicate n (-1) := by
 apply List.ext_getElem
 ·simp [otherL]
 ·intro i h1 h2; simp [otherL]
theorem lastL_succ (n : Nat) (d : Nat -> Nat) (j : Nat) : (lastL n d j).set (d j) (j : Int) = lastL n d (j + 1) := by
 apply List.ext_getElem
 ·simp [lastL]
 ·intro i h1 h2
  simp only [lastL, List.getElem_set, List.getElem_map, List.getElem_range]
  show _ = if d j = i then (j : Int) else lastD d j i
  rfl
theorem otherL_succ (n : Nat) (d : Nat -> Nat) (j : Nat) : (otherL n d j).set j (lastD d j (d j)) = otherL n d (j + 1) := by
 apply List.ext_getElem
 ·simp [otherL]
 ·intro i h1 h2
  simp only [otherL, List.getElem_set, List.getElem_map, List.getElem_range]
  by_cases e : j = i
  ·subst e; rw [if_pos rfl, if_pos (Nat.lt_succ_self j)]
  ·rw [if_neg e]
   by_cases q : i < j
   ·rw [if_pos q, if_pos (by omega)]
   ·rw [if_neg q, if_neg (by omega)]
theorem lastL_get {n : Nat} (d : Nat -> Nat) (j : Nat) {t : Nat} (h : t < n) : (lastL n d j).getD t 0 = lastD d j t := by simp [lastL, h]
theorem otherL_get {n : Nat} (d : Nat -> Nat) {i : Nat} (h : i < n) : (otherL n d n).getD i 0 = lastD d i (d i) := by simp [otherL, h]
theorem blk_ne {w : World} {B b n sz : Nat} {t e : TypeId} {cs : Array Value} {v : Value} {xs : List Value} (hb : Blk w b t cs) (h : w.ownsRow B e sz v n xs) (hne : t ≠ e) : v.ownBlock ≠ some b := by
 intro q
 rcases h.2 with ⟨rfl, _⟩ | ⟨g, cap, cur, rfl, _, hh, _⟩
 ·cases q
 ·have : g = b := by simpa [Value.ownBlock] using q
  subst this
  unfold Blk at hb
  rw [hb] at hh
  injection hh with hh
  injection hh with h1 h2 h3
  exact hne h2
theorem rows_ne {w : World} {B B' n n' sz sz' : Nat} {e e' : TypeId} {v v' : Value} {xs xs' : List Value} (h : w.ownsRow B e sz v n xs) (h' : w.ownsRow B' e' sz' v' n' xs') (hne : e ≠ e') : ∀ k, v.ownBlock = some k -> v'.ownBlock ≠ some k := by
 intro k hk q
 rcases h.2 with ⟨rfl, _⟩ | ⟨g, cap, cur, rfl, _, hh, _⟩
 ·cases hk
 ·rcases h'.2 with ⟨rfl, _⟩ | ⟨g', cap', cur', rfl, _, hh', _⟩
  ·cases q
  ·have e1 : g = k := by simpa [Value.ownBlock] using hk
   have e2 : g' = k := by simpa [Value.ownBlock] using q
   subst e1; subst e2
   rw [hh] at hh'
   injection hh' with hh'
   injection hh' with h1 h2 h3
   exact hne h2
def encW (n : Nat) (g : Nat × Nat) : List Value := [sl g.1 n n, sl g.2 n n]
theorem encW_len (n : Nat) (g : Nat × Nat) : (encW n g).length = 2 := rfl
theorem ints_tr (T : List (List Nat)) (i j : Nat) : (intsN (T.getD i [])).getD j 0 = (trN T i j : Int) := by
 simp [intsN, trN, List.getD, List.getElem?_map]
 cases h9 : (T[i]?.getD [])[j]? with
 | none => simp
 | some z => simp
theorem cell_of_own {w : World} {B g n c : Nat} {l : List Int} (h : Own w B (sl g n c) n l) {i : Nat} (hi : i < n) : w.cell? ⟨g, i, none⟩ = some (.int .i64 (l.getD i 0)) := by
 rcases h.form with ⟨e, _⟩ | ⟨g', c', e, _, _, _, hc⟩
 ·cases e
 ·simp only [Value.slice.injEq, Option.some.injEq, Addr.mk.injEq, and_true, true_and] at e
  obtain ⟨rfl, rfl⟩ := e
  have := hc i hi
  rwa [Nat.zero_add] at this
structure P3 where
 p : Nat
 g1 : Nat
 g2 : Nat
end Go.Proofs.Ytjkcglgkdclidaa
namespace Go.Proofs.Ytjkcglgkdclidaa
open Go Go.RowKit Go.Proofs
theorem region_xr {P : Program} {ops : Array Oper} {Q : Exit -> Act -> World -> Prop} {π : Type} {id : Nat} {a : Act} {w : World} (m : Nat) (S : World -> Prop) (mkL mkE : π -> Act -> Act) (F Pre : π -> World -> Prop) (fuel : Nat) (L : Array Bool) (hm : P.follows .mixedOrders = true)
  (hleaf : ∀ p W, Pre p W -> anyX P .any ops (Ends_ mkE F a Q) S m fuel L (mkL p a) W)
  (h : (∀ p W, Pre p W -> anyX P .any ops (Ends_ mkE F a Q) S m fuel L (mkL p a) W) -> anyX P .any ops (Ends_ mkE F a Q) S m ops.size (Array.replicate ops.size false) a w.drew) (hR : ∀ p w', F p w' -> Q .normal (mkE p a) w') : (Code.region id ops true).wp P Q a w :=
  region_xp m S mkE F hm (h hleaf) hR
structure PA where
 p : Nat
 ga : Nat
 ca : Nat
 gp : Nat
 cp : Nat
 go : Nat
 gs : Nat
 Bw : Nat
 wA : Option Addr
 wc : Nat
 gl : List (Nat × Nat)
section
variable {w1 wr w' : World} {B Bw H p n c : Nat} {X : Nat -> Prop} {L : Lay} {A P f fr to mk : Nat -> Nat} {Tl : List Nat} {M : Nat -> Prop}
theorem memL_nodup (h : GoodN n A P f fr to mk c M Tl) {q : Nat} (hq : q < c) : (memL A (fr q) (to q)).Nodup := by
 obtain ⟨s1, s2, s3⟩ := h.span q hq
 refine List.pairwise_iff_getElem.2 fun i j hi hj hij e => ?_
 have hi' : i < to q - fr q := by simpa [memL] using hi
 have hj' : j < to q - fr q := by simpa [memL] using hj
 simp only [memL, List.getElem_map, List.getElem_range] at e
 have e1 := (h.ap (fr q + i) (by omega)).2
 have e2 := (h.ap (fr q + j) (by omega)).2
 rw [e] at e1
 omega
theorem SplitN.congrM {n c c' : Nat} {f f' : Nat -> Nat} {M M' : Nat -> Prop} (h : SplitN n f c M f' c') (hM : ∀ x, x < n -> (M x ↔ M' x)) : SplitN n f c M' f' c' :=
 ⟨h.le, h.parted, fun x y hx hy => by rw [h.same x y hx hy, hM x hx, hM y hy], h.old⟩
end
theorem s12 {W : World} {p nb : Nat} {x : Value} {v0 v1 v2 v3 v4 : Value} (h : W.cell? ⟨nb, 0, none⟩ = some x) (hp : p ≠ nb) :
  (((((W.setCell ⟨p, 0, none⟩ v0).setCell ⟨p, 1, none⟩ v1).setCell ⟨p, 2, none⟩ v2).setCell ⟨p, 3, none⟩ v3).setCell ⟨p, 4, none⟩ v4).cell? ⟨nb, 0, none⟩ = some x := by
  have hf : Fr (fun q => q = p) W (((((W.setCell ⟨p, 0, none⟩ v0).setCell ⟨p, 1, none⟩ v1).setCell ⟨p, 2, none⟩ v2).setCell ⟨p, 3, none⟩ v3).setCell ⟨p, 4, none⟩ v4) :=
   (((((Fr.refl (fun q => q = p) W).set_ (p := ⟨p, 0, none⟩) (.inl rfl) _).set_ (p := ⟨p, 1, none⟩) (.inl rfl) _).set_ (p := ⟨p, 2, none⟩) (.inl rfl) _).set_ (p := ⟨p, 3, none⟩) (.inl rfl) _).set_ (p := ⟨p, 4, none⟩) (.inl rfl) _
  exact hf.cell h (fun e => hp e.symm)
end Go.Proofs.Ytjkcglgkdclidaa
