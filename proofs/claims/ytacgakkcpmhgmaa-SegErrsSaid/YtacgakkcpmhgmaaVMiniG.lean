/- parts.mark. parts.split. Machines in memory; net.size, net.leads. net.ways. net.alike. net.reached. fewest.renamed; names, plain. net.fewest. -/
import Derived.Test.YtacgakkcpmhgmaaVMiniB
import Derived.Test.YtacgakkcpmhgmaaVMiniD
import Derived.Test.YtacgakkcpmhgmaaVAny
import Derived.Test.YtacgakkcpmhgmaaVLL
set_option linter.unusedVariables false
set_option linter.unusedSimpArgs false
namespace Go.Proofs.Ytacgakkcpmhgmaa
open Go Go.RowKit Go.Proofs
theorem flatS_set (l l' : List (Nat × Nat × Nat)) (q j : Nat) (x : Value) (hj : j < 3) (hl : l'.length = l.length) (h1 : ∀ i, i < l.length -> i ≠ q -> l'[i]? = l[i]?) (h2 : ∀ a b, l[q]? = some a -> l'[q]? = some b -> encS b = (encS a).set j x) :
  (l.flatMap encS).set (q * 3 + j) x = l'.flatMap encS := by
  apply List.ext_getElem?
  intro i
  have hi3 : i = i / 3 * 3 + i % 3 := by omega
  have hm : i % 3 < 3 := Nat.mod_lt _ (by omega)
  rcases Nat.lt_or_ge (i / 3) l.length with h | h
  ·have h' : i / 3 < l'.length := by omega
   rw [List.getElem?_set]
   by_cases e : q * 3 + j = i
   ·have e1 : i / 3 = q := by omega
    have e2 : i % 3 = j := by omega
    rw [if_pos e, if_pos (by rw [flatE_len encS 3 encS_len]; omega)]
    rw [hi3, flatE_at encS 3 encS_len l' _ _ h' hm, e2]
    have := h2 (l[i / 3]) (l'[i / 3]) (by rw [<- e1]; exact List.getElem?_eq_getElem h) (by rw [<- e1]; exact List.getElem?_eq_getElem h')
    rw [this, List.getElem?_set_self (by rw [encS_len]; exact hj)]
   ·rw [if_neg e]
    conv => lhs; rw [hi3]
    conv => rhs; rw [hi3]
    rw [flatE_at encS 3 encS_len l _ _ h hm, flatE_at encS 3 encS_len l' _ _ h' hm]
    by_cases e1 : i / 3 = q
    ·have := h2 (l[i / 3]) (l'[i / 3]) (by rw [<- e1]; exact List.getElem?_eq_getElem h) (by rw [<- e1]; exact List.getElem?_eq_getElem h')
     rw [this, List.getElem?_set_ne (by omega)]
    ·have := h1 _ h e1
     rw [List.getElem?_eq_getElem h, List.getElem?_eq_getElem h'] at this
     injection this with this
     rw [this]
  ·rw [List.getElem?_eq_none, List.getElem?_eq_none]
   ·rw [flatE_len encS 3 encS_len]; omega
   ·rw [List.length_set, flatE_len encS 3 encS_len]; omega
theorem rowS_get {c : Nat} (fr to mk : Nat -> Nat) {i : Nat} : (rowS c fr to mk)[i]? = if i < c then some (fr i, to i, mk i) else none := by
 split
 ·rename_i h; exact rowS_at fr to mk h
 ·rename_i h; exact List.getElem?_eq_none (by rw [rowS_len]; omega)
theorem rowS_mk (c : Nat) (fr to mk : Nat -> Nat) (q v : Nat) : ((rowS c fr to mk).flatMap encS).set (q * 3 + 2) (.int .i64 (v : Int)) = (rowS c fr to (updN mk q v)).flatMap encS := by
 refine flatS_set _ _ q 2 _ (by omega) (by simp [rowS]) (fun i hi hne => ?_) (fun a b ha hb => ?_)
 ·rw [rowS_get, rowS_get, updN_ne _ _ hne]
 ·rw [rowS_get] at ha hb
  split at ha
  ·rw [if_pos (by assumption)] at hb
   injection ha with ha; injection hb with hb
   subst ha; subst hb; simp [encS, updN]
  ·cases ha
theorem rowS_fr (c : Nat) (fr to mk : Nat -> Nat) (q v : Nat) : ((rowS c fr to mk).flatMap encS).set (q * 3 + 0) (.int .i64 (v : Int)) = (rowS c (updN fr q v) to mk).flatMap encS := by
 refine flatS_set _ _ q 0 _ (by omega) (by simp [rowS]) (fun i hi hne => ?_) (fun a b ha hb => ?_)
 ·rw [rowS_get, rowS_get, updN_ne _ _ hne]
 ·rw [rowS_get] at ha hb
  split at ha
  ·rw [if_pos (by assumption)] at hb
   injection ha with ha; injection hb with hb
   subst ha; subst hb; simp [encS, updN]
  ·cases ha
theorem rowS_to (c : Nat) (fr to mk : Nat -> Nat) (q v : Nat) : ((rowS c fr to mk).flatMap encS).set (q * 3 + 1) (.int .i64 (v : Int)) = (rowS c fr (updN to q v) mk).flatMap encS := by
 refine flatS_set _ _ q 1 _ (by omega) (by simp [rowS]) (fun i hi hne => ?_) (fun a b ha hb => ?_)
 ·rw [rowS_get, rowS_get, updN_ne _ _ hne]
 ·rw [rowS_get] at ha hb
  split at ha
  ·rw [if_pos (by assumption)] at hb
   injection ha with ha; injection hb with hb
   subst ha; subst hb; simp [encS, updN]
  ·cases ha
end Go.Proofs.Ytacgakkcpmhgmaa
namespace Go.Proofs.Ytacgakkcpmhgmaa
open Go Go.RowKit Go.Proofs
theorem GoodN.congrM {N c : Nat} {A P f fr to mk : Nat -> Nat} {M M' : Nat -> Prop} {L : List Nat} (h : GoodN N A P f fr to mk c M L) (hM : ∀ x, x < N -> (M x ↔ M' x)) : GoodN N A P f fr to mk c M' L :=
 ⟨h.lt, h.pa, h.ap, h.span, h.mem, fun x hx => (hM x hx).symm.trans (h.mark x hx), h.touch, h.nodup⟩
section
variable {w wr w' : World} {B : Nat} {L : Lay} {N c0 c i gs cs q : Nat} {A P f f' fr to mk : Nat -> Nat} {M : Nat -> Prop} {Tl : List Nat}
theorem take_q (hi : i < Tl.length) (hq : Tl[i] = q) : Tl.take (i + 1) = Tl.take i ++ [q] := by rw [List.take_succ_eq_append_getElem hi, hq]
theorem drop_q (hi : i < Tl.length) (hq : Tl[i] = q) : Tl.drop i = q :: Tl.drop (i + 1) := by rw [List.drop_eq_getElem_cons hi, hq]
theorem fresh_q (hnd : Tl.Nodup) (hi : i < Tl.length) (hq : Tl[i] = q) : q ∉ Tl.take i := by
 intro h
 obtain ⟨j, hj, ej⟩ := List.getElem_of_mem h
 have hj' : j < i := by have := hj; simp at this; omega
 rw [List.getElem_take] at ej
 exact (List.pairwise_iff_getElem.1 hnd j i (by omega) hi hj') (by rw [ej, hq])
theorem marks_q (hi : i < Tl.length) (hq : Tl[i] = q) (hs : ∀ x, x < N -> f x ∉ Tl.take i -> f' x = f x) (x : Nat) (hx : x < N) : ((M x /\ f x ∉ Tl.take i) /\ f' x ≠ q) ↔ (M x /\ f x ∉ Tl.take (i + 1)) := by
 rw [take_q hi hq, List.mem_append, List.mem_singleton, not_or]
 constructor
 ·rintro ⟨⟨h1, h2⟩, h3⟩
  exact ⟨h1, h2, fun e => h3 (by rw [hs x hx h2]; exact e)⟩
 ·rintro ⟨h1, h2, h3⟩
  exact ⟨⟨h1, h2⟩, fun e => h3 (by rw [<- hs x hx h2]; exact e)⟩
end
theorem own_front0 {w : World} {B n c : Nat} {A : Option Addr} {l : List Int} (h : Own w B (.slice A n c) n l) : Own w B (.slice A 0 c) 0 [] := by
 rcases h.2 with ⟨e, h0⟩ | ⟨g, cap, cur, e, hg, hh, h1, h2, h3, _⟩
 ·simp only [Value.slice.injEq] at e
  obtain ⟨rfl, -, rfl⟩ := e
  exact Own.nil _ _
 ·simp only [Value.slice.injEq, true_and] at e
  obtain ⟨rfl, rfl⟩ := e
  exact ⟨rfl, .inr ⟨g, c, cur, rfl, hg, hh, Nat.zero_le _, h2, h3, by simp⟩⟩
end Go.Proofs.Ytacgakkcpmhgmaa
namespace Go.Proofs.Ytacgakkcpmhgmaa
open Go Go.RowKit Go.Proofs
def NextR (w : World) (v : Value) (T : List (List Nat)) : Prop :=
 ∃ a cap, v = .slice a T.length cap /\ T.length <= cap /\ cap <= maxLen /\ (a = none -> cap = 0) /\ ∀ i, i < T.length -> ∃ b off u, a = some ⟨b, off, none⟩ /\ w.cell? ⟨b, off + i, none⟩ = some u /\ ReadsI w u (T.getD i []).length (intsN (T.getD i []))
section
variable {w w' : World} {v : Value} {T : List (List Nat)}
theorem NextR.same (h : NextR w v T) (hk : ∀ b o x, w.cell? ⟨b, o, none⟩ = some x -> w'.cell? ⟨b, o, none⟩ = some x) : NextR w' v T := by
 obtain ⟨a, cap, h1, h2, h3, h4, h5⟩ := h
 refine ⟨a, cap, h1, h2, h3, h4, fun i hi => ?_⟩
 obtain ⟨b, off, u, e, hc, hr⟩ := h5 i hi
 exact ⟨b, off, u, e, hk _ _ _ hc, hr.same hk⟩
theorem NextR.below (h : NextR w v T) (hb : Below w.heap.size w w') : NextR w' v T := h.same fun b o x hx => bel_m hb hx
theorem NextR.form (h : NextR w v T) : ∃ a cap, v = .slice a T.length cap /\ T.length <= cap /\ cap <= 9223372036854775807 := by
 obtain ⟨a, cap, h1, h2, h3, _⟩ := h
 exact ⟨a, cap, h1, h2, by unfold maxLen at h3; exact h3⟩
theorem NextR.at_ {a : Option Addr} {n cap : Nat} (h : NextR w (.slice a n cap) T) {i : Nat} (hi : i < T.length) : ∃ b off A m c, a = some ⟨b, off, none⟩ /\ m = (T.getD i []).length /\ w.cell? ⟨b, off + i, none⟩ = some (.slice A m c) /\ ReadsI w (.slice A m c) m (intsN (T.getD i [])) /\ m <= c /\ c <= 9223372036854775807 := by
 obtain ⟨a', cap', h1, h2, h3, h4, h5⟩ := h
 simp only [Value.slice.injEq] at h1
 obtain ⟨rfl, -, rfl⟩ := h1
 obtain ⟨b, off, u, e, hc, hr⟩ := h5 i hi
 obtain ⟨A, c, e2, q1, q2, _⟩ := hr.form
 subst e2
 exact ⟨b, off, A, _, c, e, rfl, hc, hr, q1, q2⟩
end
end Go.Proofs.Ytacgakkcpmhgmaa
namespace Go.Proofs.Ytacgakkcpmhgmaa
open Go Go.RowKit Go.Proofs
def lastD (d : Nat -> Nat) : Nat -> Nat -> Int
 | 0, _ => -1
 | j + 1, t => if d j = t then (j : Int) else lastD d j t
theorem lastD_cases (d : Nat -> Nat) (t : Nat) : ∀ j, (lastD d j t = -1 /\ ∀ i, i < j -> d i ≠ t) \/ ∃ i, i < j /\ lastD d j t = (i : Int) /\ d i = t /\ ∀ i', i < i' -> i' < j -> d i' ≠ t
 | 0 => .inl ⟨rfl, fun i hi => absurd hi (Nat.not_lt_zero i)⟩
 | j + 1 => by
   unfold lastD
   by_cases e : d j = t
   ·rw [if_pos e]
    exact .inr ⟨j, Nat.lt_succ_self j, rfl, e, fun i' h1 h2 => by omega⟩
   ·rw [if_neg e]
    rcases lastD_cases d t j with ⟨h1, h2⟩ | ⟨i, h1, h2, h3, h4⟩
    ·refine .inl ⟨h1, fun i hi => ?_⟩
     rcases Nat.lt_or_ge i j with q | q
     ·exact h2 i q
     ·have : i = j := by omega
      subst this; exact e
    ·refine .inr ⟨i, by omega, h2, h3, fun i' h5 h6 => ?_⟩
     rcases Nat.lt_or_ge i' j with q | q
     ·exact h4 i' h5 q
     ·have : i' = j := by omega
      subst this; exact e
def lastL (n : Nat) (d : Nat -> Nat) (j : Nat) : List Int := (List.range n).map fun t => lastD d j t
def otherL (n : Nat) (d : Nat -> Nat) (j : Nat) : List Int := (List.range n).map fun i => if i < j then lastD d i (d i) else -1
theorem lastL_zero (n : Nat) (d : Nat -> Nat) : lastL n d 0 = List.replicate n (-1) := by
 apply List.ext_getElem
 ·simp [lastL]
 ·intro i h1 h2; simp [lastL, lastD]
theorem otherL_zero (n : Nat) (d : Nat -> Nat) : otherL n d 0 = List.replicate n (-1) := by
 apply List.ext_getElem
 ·simp [otherL]
 ·intro i h1 h2; simp [otherL]
theorem lastL_succ (n : Nat) (d : Nat -> Nat) (j : Nat) : (lastL n d j).set (d j) (j : Int) = lastL n d (j + 1) := by
 apply List.ext_getElem
 ·simp [lastL]
 ·intro i h1 h2
  simp only [lastL, List.getElem_set, List.getElem_map, List.getElem_range]
  show _ = if d j = i then (j : Int) else lastD d j i
  rfl
theorem otherL_succ (n : Nat) (d : Nat -> Nat) (j : Nat) : (otherL n d j).set j (lastD d j (d j)) = otherL n d (j + 1) := by
 apply List.ext_getElem
 ·simp [otherL]
 ·intro i h1 h2
  simp only [otherL, List.getElem_set, List.getElem_map, List.getElem_range]
  by_cases e : j = i
  ·subst e; rw [if_pos rfl, if_pos (Nat.lt_succ_self j)]
  ·rw [if_neg e]
   by_cases q : i < j
   ·rw [if_pos q, if_pos (by omega)]
   ·rw [if_neg q, if_neg (by omega)]
theorem lastL_get {n : Nat} (d : Nat -> Nat) (j : Nat) {t : Nat} (h : t < n) : (lastL n d j).getD t 0 = lastD d j t := by simp [lastL, h]
theorem otherL_get {n : Nat} (d : Nat -> Nat) {i : Nat} (h : i < n) : (otherL n d n).getD i 0 = lastD d i (d i) := by simp [otherL, h]
theorem blk_ne {w : World} {B b n sz : Nat} {t e : TypeId} {cs : Array Value} {v : Value} {xs : List Value} (hb : Blk w b t cs) (h : w.ownsRow B e sz v n xs) (hne : t ≠ e) : v.ownBlock ≠ some b := by
 intro q
 rcases h.2 with ⟨rfl, _⟩ | ⟨g, cap, cur, rfl, _, hh, _⟩
 ·cases q
 ·have : g = b := by simpa [Value.ownBlock] using q
  subst this
  unfold Blk at hb
  rw [hb] at hh
  injection hh with hh
  injection hh with h1 h2 h3
  exact hne h2
theorem rows_ne {w : World} {B B' n n' sz sz' : Nat} {e e' : TypeId} {v v' : Value} {xs xs' : List Value} (h : w.ownsRow B e sz v n xs) (h' : w.ownsRow B' e' sz' v' n' xs') (hne : e ≠ e') : ∀ k, v.ownBlock = some k -> v'.ownBlock ≠ some k := by
 intro k hk q
 rcases h.2 with ⟨rfl, _⟩ | ⟨g, cap, cur, rfl, _, hh, _⟩
 ·cases hk
 ·rcases h'.2 with ⟨rfl, _⟩ | ⟨g', cap', cur', rfl, _, hh', _⟩
  ·cases q
  ·have e1 : g = k := by simpa [Value.ownBlock] using hk
   have e2 : g' = k := by simpa [Value.ownBlock] using q
   subst e1; subst e2
   rw [hh] at hh'
   injection hh' with hh'
   injection hh' with h1 h2 h3
   exact hne h2
def encW (n : Nat) (g : Nat × Nat) : List Value := [sl g.1 n n, sl g.2 n n]
theorem encW_len (n : Nat) (g : Nat × Nat) : (encW n g).length = 2 := rfl
theorem ints_tr (T : List (List Nat)) (i j : Nat) : (intsN (T.getD i [])).getD j 0 = (trN T i j : Int) := by
 simp [intsN, trN, List.getD, List.getElem?_map]
 cases h9 : (T[i]?.getD [])[j]? with
 | none => simp
 | some z => simp
theorem cell_of_own {w : World} {B g n c : Nat} {l : List Int} (h : Own w B (sl g n c) n l) {i : Nat} (hi : i < n) : w.cell? ⟨g, i, none⟩ = some (.int .i64 (l.getD i 0)) := by
 rcases h.form with ⟨e, _⟩ | ⟨g', c', e, _, _, _, hc⟩
 ·cases e
 ·simp only [Value.slice.injEq, Option.some.injEq, Addr.mk.injEq, and_true, true_and] at e
  obtain ⟨rfl, rfl⟩ := e
  have := hc i hi
  rwa [Nat.zero_add] at this
structure P3 where
 p : Nat
 g1 : Nat
 g2 : Nat
end Go.Proofs.Ytacgakkcpmhgmaa
namespace Go.Proofs.Ytacgakkcpmhgmaa
open Go Go.RowKit Go.Proofs
theorem region_xr {P : Program} {ops : Array Oper} {Q : Exit -> Act -> World -> Prop} {π : Type} {id : Nat} {a : Act} {w : World} (m : Nat) (S : World -> Prop) (mkL mkE : π -> Act -> Act) (F Pre : π -> World -> Prop) (fuel : Nat) (L : Array Bool) (hm : P.follows .mixedOrders = true)
  (hleaf : ∀ p W, Pre p W -> anyX P .any ops (Ends_ mkE F a Q) S m fuel L (mkL p a) W)
  (h : (∀ p W, Pre p W -> anyX P .any ops (Ends_ mkE F a Q) S m fuel L (mkL p a) W) -> anyX P .any ops (Ends_ mkE F a Q) S m ops.size (Array.replicate ops.size false) a w.drew) (hR : ∀ p w', F p w' -> Q .normal (mkE p a) w') : (Code.region id ops true).wp P Q a w :=
  region_xp m S mkE F hm (h hleaf) hR
structure PA where
 p : Nat
 ga : Nat
 ca : Nat
 gp : Nat
 cp : Nat
 go : Nat
 gs : Nat
 Bw : Nat
 wA : Option Addr
 wc : Nat
 gl : List (Nat × Nat)
section
variable {w1 wr w' : World} {B Bw H p n c : Nat} {X : Nat -> Prop} {L : Lay} {A P f fr to mk : Nat -> Nat} {Tl : List Nat} {M : Nat -> Prop}
theorem memL_nodup (h : GoodN n A P f fr to mk c M Tl) {q : Nat} (hq : q < c) : (memL A (fr q) (to q)).Nodup := by
 obtain ⟨s1, s2, s3⟩ := h.span q hq
 refine List.pairwise_iff_getElem.2 fun i j hi hj hij e => ?_
 have hi' : i < to q - fr q := by simpa [memL] using hi
 have hj' : j < to q - fr q := by simpa [memL] using hj
 simp only [memL, List.getElem_map, List.getElem_range] at e
 have e1 := (h.ap (fr q + i) (by omega)).2
 have e2 := (h.ap (fr q + j) (by omega)).2
 rw [e] at e1
 omega
theorem SplitN.congrM {n c c' : Nat} {f f' : Nat -> Nat} {M M' : Nat -> Prop} (h : SplitN n f c M f' c') (hM : ∀ x, x < n -> (M x ↔ M' x)) : SplitN n f c M' f' c' :=
 ⟨h.le, h.parted, fun x y hx hy => by rw [h.same x y hx hy, hM x hx, hM y hy], h.old⟩
end
theorem s12 {W : World} {p nb : Nat} {x : Value} {v0 v1 v2 v3 v4 : Value} (h : W.cell? ⟨nb, 0, none⟩ = some x) (hp : p ≠ nb) :
  (((((W.setCell ⟨p, 0, none⟩ v0).setCell ⟨p, 1, none⟩ v1).setCell ⟨p, 2, none⟩ v2).setCell ⟨p, 3, none⟩ v3).setCell ⟨p, 4, none⟩ v4).cell? ⟨nb, 0, none⟩ = some x := by
  have hf : Fr (fun q => q = p) W (((((W.setCell ⟨p, 0, none⟩ v0).setCell ⟨p, 1, none⟩ v1).setCell ⟨p, 2, none⟩ v2).setCell ⟨p, 3, none⟩ v3).setCell ⟨p, 4, none⟩ v4) :=
   (((((Fr.refl (fun q => q = p) W).set_ (p := ⟨p, 0, none⟩) (.inl rfl) _).set_ (p := ⟨p, 1, none⟩) (.inl rfl) _).set_ (p := ⟨p, 2, none⟩) (.inl rfl) _).set_ (p := ⟨p, 3, none⟩) (.inl rfl) _).set_ (p := ⟨p, 4, none⟩) (.inl rfl) _
  exact hf.cell h (fun e => hp e.symm)
end Go.Proofs.Ytacgakkcpmhgmaa
namespace Go.Proofs.Ytacgakkcpmhgmaa
open Go Go.RowKit Go.Proofs
theorem visit_lt {T : List (List Nat)} {k : Nat} (hT : RectN T k) {s : Nat} (hs : s < T.length) {m : List Nat} (hm : ∀ x ∈ m, x < T.length) (i : Nat) : ∀ x ∈ visitN eqN ((T.getD s []).take i) m, x < T.length := by
 obtain ⟨r, e, hr⟩ := visitN_pre eqN ((T.getD s []).take i) m
 rw [e]
 intro x hx
 rcases List.mem_append.1 hx with q | q
 ·exact hm x q
 ·obtain ⟨a, ha, rfl⟩ := row_mem hT hs (List.mem_of_mem_take (hr x q))
  exact hT.lt s a hs ha
end Go.Proofs.Ytacgakkcpmhgmaa
namespace Go.Proofs.Ytacgakkcpmhgmaa
open Go Go.RowKit Go.Proofs
def rowZ (n : Nat) (f : Nat -> Int) : List Int := (List.range n).map f
theorem rowZ_len (n : Nat) (f : Nat -> Int) : (rowZ n f).length = n := by simp [rowZ]
theorem rowZ_get {n : Nat} (f : Nat -> Int) {i : Nat} (h : i < n) : (rowZ n f).getD i 0 = f i := by simp [rowZ, h]
theorem rowZ_set (n : Nat) (f : Nat -> Int) (i : Nat) (v : Int) : (rowZ n f).set i v = rowZ n (fun j => if j = i then v else f j) := by
 apply List.ext_getElem
 ·simp [rowZ]
 ·intro j h1 h2
  simp only [rowZ, List.getElem_set, List.getElem_map, List.getElem_range]
  by_cases e : i = j
  ·subst e; simp
  ·rw [if_neg e, if_neg (fun q => e q.symm)]
theorem rowZ_congr {n : Nat} {f f' : Nat -> Int} (h : ∀ i, i < n -> f i = f' i) : rowZ n f = rowZ n f' := by
 unfold rowZ
 exact List.map_congr_left fun i hi => h i (List.mem_range.1 hi)
def renF (nm : Nat -> Int) (ss : List Nat) (i : Nat) : Nat -> Int := fun q => if q < i then nm (ss.getD q 0) else 0
theorem renF_all (nm : Nat -> Int) (ss : List Nat) : rowZ ss.length (renF nm ss ss.length) = ss.map nm := by
 apply List.ext_getElem
 ·simp [rowZ]
 ·intro i h1 h2
  have hi : i < ss.length := by simpa [rowZ] using h1
  simp only [rowZ, renF, List.getElem_map, List.getElem_range]
  rw [if_pos hi]
  simp [List.getD, List.getElem?_eq_getElem hi]
theorem renF_succ (nm : Nat -> Int) (ss : List Nat) (m i : Nat) : (rowZ m (renF nm ss i)).set i (nm (ss.getD i 0)) = rowZ m (renF nm ss (i + 1)) := by
 rw [rowZ_set]
 congr 1
 funext q
 unfold renF
 by_cases e : q = i
 ·subst e; rw [if_pos rfl, if_pos (Nat.lt_succ_self q)]
 ·rw [if_neg e]
  by_cases h : q < i
  ·rw [if_pos h, if_pos (by omega)]
  ·rw [if_neg h, if_neg (by omega)]
theorem renF_zero (nm : Nat -> Int) (ss : List Nat) (m : Nat) : rowZ m (renF nm ss 0) = rowN m fun _ => 0 := by
 unfold rowZ rowN renF
 exact List.map_congr_left fun i _ => by simp
end Go.Proofs.Ytacgakkcpmhgmaa
namespace Go.Proofs.Ytacgakkcpmhgmaa
open Go Go.RowKit Go.Proofs
theorem blk_ne2 {w : World} {b b' : Nat} {t t' : TypeId} {cs cs' : Array Value} (h : Blk w b t cs) (h' : Blk w b' t' cs') (hne : t ≠ t') : ¬ b = b' := by
 intro e
 subst e
 unfold Blk at h h'
 rw [h] at h'
 injection h' with h'
 injection h' with h1 h2 h3
 exact hne h2
def EF (f : Nat -> Nat) (u t : Nat) : Bool := decide (f u = f t)
theorem EF.eqv (f : Nat -> Nat) : EqvN (EF f) := ⟨fun x => by simp [EF], fun x y h => by simp [EF] at h ⊢; exact h.symm, fun x y z h h' => by simp [EF] at h h' ⊢; exact h.trans h'⟩
theorem EF.step {α : Type} {g : Nat -> α} {T : List (List Nat)} {k : Nat} {f : Nat -> Nat} (hT : RectN T k) (hf : ∀ x y, x < T.length -> y < T.length -> (f x = f y ↔ AlikeN T k g x y)) : StepN T k (EF f) := fun x y a hx hy ha h => by
 simp [EF] at h ⊢
 exact (hf _ _ (hT.lt x a hx ha) (hT.lt y a hy ha)).2 (((hf x y hx hy).1 h).step ha)
theorem add_map (f : Nat -> Nat) (l : List Nat) (s : Nat) : metL (l.map f) (f s) = (addN (EF f) l s).map f := by
 unfold metL addN
 have e : f s ∈ l.map f ↔ l.any (fun u => EF f u s) = true := by
  rw [List.mem_map, List.any_eq_true]
  simp [EF]
 by_cases h : f s ∈ l.map f
 ·rw [if_pos h, if_pos (e.1 h)]
 ·rw [if_neg h, if_neg (fun q => h (e.2 q)), List.map_append]; rfl
theorem idx_map (f : Nat -> Nat) (s : Nat) : ∀ l : List Nat, (l.map f).idxOf (f s) = ixN (EF f) l s
 | [] => rfl
 | x :: l => by
   unfold ixN
   rw [List.map_cons, List.idxOf_cons, List.findIdx_cons]
   have ih := idx_map f s l
   unfold ixN at ih
   by_cases e : f x = f s
   ·have h1 : (f x == f s) = true := by simp [e]
    have h2 : EF f x s = true := by simp [EF, e]
    rw [h1, h2]; rfl
   ·have h1 : (f x == f s) = false := by simpa using e
    have h2 : EF f x s = false := by simp [EF, e]
    rw [h1, h2]
    simp only [cond_false]
    rw [ih]
theorem ix_pre (E : Nat -> Nat -> Bool) (l r : List Nat) (s : Nat) (h : l.any (fun u => E u s) = true) : ixN E (l ++ r) s = ixN E l s := by
 unfold ixN
 rw [List.findIdx_append]
 have : l.findIdx (fun u => E u s) < l.length := by
  rw [List.findIdx_lt_length]
  obtain ⟨u, hu, e⟩ := List.any_eq_true.1 h
  exact ⟨u, hu, e⟩
 rw [if_pos this]
theorem add_any {E : Nat -> Nat -> Bool} (hE : EqvN E) (l : List Nat) (s : Nat) : (addN E l s).any (fun u => E u s) = true := by
 unfold addN
 split
 ·assumption
 ·rw [List.any_append]; simp [hE.refl]
theorem add_new {E : Nat -> Nat -> Bool} (hE : EqvN E) (l : List Nat) (s : Nat) : (ixN E (addN E l s) s = l.length /\ addN E l s = l ++ [s]) \/ (ixN E (addN E l s) s < l.length /\ addN E l s = l) := by
 unfold addN
 split
 ·rename_i h
  refine .inr ⟨?_, rfl⟩
  unfold ixN
  rw [List.findIdx_lt_length]
  obtain ⟨u, hu, e⟩ := List.any_eq_true.1 h
  exact ⟨u, hu, e⟩
 ·rename_i h
  refine .inl ⟨?_, rfl⟩
  unfold ixN
  rw [List.findIdx_append, if_neg]
  ·simp [List.findIdx_cons, hE.refl]
  ·rw [List.findIdx_lt_length]
   rintro ⟨u, hu, e⟩
   exact h (List.any_eq_true.2 ⟨u, hu, e⟩)
def fiL (T : List (List Nat)) (E : Nat -> Nat -> Bool) (j : Nat) : List Nat := onceN E ((metN T).take j)
def naF (T : List (List Nat)) (E : Nat -> Nat -> Bool) (j : Nat) (x : Nat) : Int := if x ∈ (metN T).take j then (ixN E (repN T E) x : Nat) else -1
section
variable {T : List (List Nat)} {k : Nat} {E : Nat -> Nat -> Bool} {j s : Nat}
theorem fiL_succ (hs : (metN T)[j]? = some s) : fiL T E (j + 1) = addN E (fiL T E j) s := by
 unfold fiL
 rw [List.take_add_one, hs]
 exact onceN_snoc E _ s
theorem fiL_all (hT : RectN T k) (hE : EqvN E) (hS : StepN T k E) : fiL T E (metN T).length = repN T E := by
 unfold fiL
 rw [List.take_of_length_le (Nat.le_refl _)]
 exact once_met hT hE hS
theorem fiL_pre (hT : RectN T k) (hE : EqvN E) (hS : StepN T k E) (j : Nat) : ∃ r, repN T E = fiL T E j ++ r := by
 have h := onceN_pre E ((metN T).take j) ((metN T).drop j)
 rw [List.take_append_drop, once_met hT hE hS] at h
 exact h
theorem naF_succ (hs : (metN T)[j]? = some s) (x : Nat) : naF T E (j + 1) x = if x = s then ((ixN E (repN T E) s : Nat) : Int) else naF T E j x := by
 unfold naF
 rw [List.take_add_one, hs]
 by_cases e : x = s
 ·subst e
  rw [if_pos rfl, if_pos]
  simp
 ·rw [if_neg e]
  have : (x ∈ (metN T).take j ++ (some s).toList) ↔ x ∈ (metN T).take j := by simp [e]
  by_cases q : x ∈ (metN T).take j
  ·rw [if_pos q, if_pos (this.2 q)]
  ·rw [if_neg q, if_neg (fun r => q (this.1 r))]
theorem naF_all (x : Nat) : naF T E (metN T).length x = nameN T E x := by
 unfold naF nameN
 rw [List.take_of_length_le (Nat.le_refl _)]
theorem naF_zero (n : Nat) : rowZ n (naF T E 0) = List.replicate n (-1) := by
 apply List.ext_getElem
 ·simp [rowZ]
 ·intro i h1 h2; simp [rowZ, naF]
theorem num_met (hT : RectN T k) (hE : EqvN E) (hS : StepN T k E) (hs : (metN T)[j]? = some s) : ixN E (addN E (fiL T E j) s) s = ixN E (repN T E) s := by
 obtain ⟨r, e⟩ := fiL_pre hT hE hS (j + 1)
 rw [e, fiL_succ hs]
 exact (ix_pre E _ r s (add_any hE _ s)).symm
end
def rowsN (T : List (List Nat)) (E : Nat -> Nat -> Bool) (l : List Nat) : List (List Int) := l.map fun s => (T.getD s []).map (nameN T E)
def xssN (rows : List (List Int)) : List (Nat × List Value) := rows.map fun r => (r.length, r.map (Value.int .i64))
structure FwLo (w9 : World) (p6 bo go3 gn : Nat) : Prop where
 p : p6 < w9.heap.size
 b : bo < w9.heap.size
 g : go3 < w9.heap.size
 n : gn < w9.heap.size
 pb : ¬ p6 = bo
 pg : ¬ p6 = go3
 pn : ¬ p6 = gn
 nb : ¬ gn = bo
 ng : ¬ gn = go3
section
variable {w9 wr w' : World} {B p6 bo go3 gn n c j s k : Nat} {f : Nat -> Nat} {T : List (List Nat)} {vf mv mv' : Value}
end
theorem fiL_len (T : List (List Nat)) (E : Nat -> Nat -> Bool) (j : Nat) : (fiL T E j).length <= (metN T).length := by
 have key : ∀ m : List Nat, (onceN E m).length <= m.length := by
  intro m
  induction m using snocN with
  | h0 => simp [onceN]
  | h1 m x ih =>
    rw [onceN_snoc]
    unfold addN
    split
    ·simp; omega
    ·simp; omega
 exact Nat.le_trans (key _) (by simp; omega)
theorem info_row : (Try.prog.info? 22).map (fun i => (i.zero, i.size, i.bytes)) = some (some (.slice none 0 0), 1, 24) := by kernel_rfl
section
variable {w w' : World} {B k : Nat} {e e' : TypeId} {v : Value} {xss : List (Nat × List Value)}
theorem OwnLL.fr {X : Nat -> Prop} (h : OwnLL w B e e' 1 v k xss) (hf : Fr X w w') (hX : ∀ q, B <= q -> ¬ X q) : OwnLL w' B e e' 1 v k xss := by
 have key : ∀ {e : TypeId} {u : Value} {n : Nat} {xs : List Value}, w.ownsRow B e 1 u n xs -> w'.ownsRow B e 1 u n xs := fun {e u n xs} ho => by
  have hlt := ho.lt
  obtain ⟨h1, h2⟩ := ho
  refine ⟨h1, ?_⟩
  rcases h2 with h2 | ⟨g, cap, cur, rfl, hg, hh, r⟩
  ·exact .inl h2
  ·exact .inr ⟨g, cap, cur, rfl, hg, by rw [hf.block g (hlt g rfl).2 (hX g hg)]; exact hh, r⟩
 obtain ⟨h1, vals, h2, h3⟩ := h
 exact ⟨h1, vals, key h2, fun i hi => ⟨key (h3 i hi).1, (h3 i hi).2⟩⟩
theorem ownsRow_more {e : TypeId} {u : Value} {n B' : Nat} {xs : List Value} (h : w.ownsRow B e 1 u n xs) (hB : B' <= B) : w.ownsRow B' e 1 u n xs := by
 obtain ⟨h1, h2⟩ := h
 refine ⟨h1, ?_⟩
 rcases h2 with h2 | ⟨g, cap, cur, rfl, hg, r⟩
 ·exact .inl h2
 ·exact .inr ⟨g, cap, cur, rfl, by omega, r⟩
theorem OwnLL.more (h : OwnLL w B e e' 1 v k xss) {B' : Nat} (hB : B' <= B) : OwnLL w B' e e' 1 v k xss := by
 obtain ⟨h1, vals, h2, h3⟩ := h
 exact ⟨h1, vals, ownsRow_more h2 hB, fun i hi => ⟨ownsRow_more (h3 i hi).1 hB, (h3 i hi).2⟩⟩
theorem OwnLL.formS (h : OwnLL w B e e' 1 v k xss) : ∃ A n c, v = .slice A n c := by
 rcases h.form with ⟨e, _⟩ | ⟨g, cap, e, _⟩
 ·exact ⟨_, _, _, e⟩
 ·exact ⟨_, _, _, e⟩
theorem OwnLL.pushK (h : OwnLL w B e e' 1 v k xss) : ∃ vals, w.ownsRow B e 1 v k vals /\ ∀ (V V' : World) (g cap : Nat) (u : Value) (n : Nat) (xs : List Value), Below w.heap.size w V -> V'.ownsRow B e 1 (sl g (k + 1) cap) (k + 1) (vals ++ [u]) -> V.grownBy V' v.ownBlock ->
  (v.ownBlock = some g \/ g = V.heap.size) -> V.ownsRow B e' 1 u n xs -> Apart v u -> OwnLL V' B e e' 1 (sl g (k + 1) cap) (k + 1) (xss ++ [(n, xs)]) := by
  obtain ⟨h1, vals, h2, h3⟩ := h
  refine ⟨vals, h2, fun V V' g cap u n xs hb ho hg hat hu hap => ⟨by simp [h1], vals ++ [u], ho, fun i hi => ?_⟩⟩
  have hl : vals.length = k := by have := h2.1; omega
  rcases Nat.lt_or_ge i k with g1 | g1
  ·have e1 : (vals ++ [u]).getD i undef = vals.getD i undef := by simp [List.getD, List.getElem?_append_left (show i < vals.length by omega)]
   have e2 : (xss ++ [(n, xs)]).getD i (0, []) = xss.getD i (0, []) := by simp [List.getD, List.getElem?_append_left (show i < xss.length by omega)]
   rw [e1, e2]
   exact apart_lies (h3 i g1).2 (ownsRow_bel (h3 i g1).1 hb) hg hat rfl
  ·have hik : i = k := by omega
   subst hik
   have e1 : (vals ++ [u]).getD i undef = u := by simp [List.getD, <- hl]
   have e2 : (xss ++ [(n, xs)]).getD i (0, []) = (n, xs) := by simp [List.getD, <- h1]
   rw [e1, e2]
   exact apart_lies hap hu hg hat rfl
end
structure PF where
 p5 : Nat
 p6 : Nat
 ga : Nat
 ca : Nat
 gp : Nat
 cp : Nat
 go : Nat
 co : Nat
 gs : Nat
 cs : Nat
 TA : Option Addr
 tn : Nat
 tc : Nat
 c : Nat
 f : Nat -> Nat
 gn : Nat
end Go.Proofs.Ytacgakkcpmhgmaa
