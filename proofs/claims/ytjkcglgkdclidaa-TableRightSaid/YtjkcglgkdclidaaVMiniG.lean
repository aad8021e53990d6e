/- parts.mark. parts.split. Machines in memory; net.size, net.leads. -/
import Derived.Test.YtjkcglgkdclidaaVMiniA
import Derived.Test.YtjkcglgkdclidaaVMiniD
import Derived.Test.YtjkcglgkdclidaaVAny
set_option linter.unusedVariables false
set_option linter.unusedSimpArgs false
namespace Go.Proofs.Ytjkcglgkdclidaa
open Go Go.RowKit Go.Proofs
theorem flatS_set (l l' : List (Nat × Nat × Nat)) (q j : Nat) (x : Value) (hj : j < 3) (hl : l'.length = l.length) (h1 : ∀ i, i < l.length -> i ≠ q -> l'[i]? = l[i]?) (h2 : ∀ a b, l[q]? = some a -> l'[q]? = some b -> encS b = (encS a).set j x) :
  (l.flatMap encS).set (q * 3 + j) x = l'.flatMap encS := by
  apply List.ext_getElem?
  intro i
  have hi3 : i = i / 3 * 3 + i % 3 := by omega
  have hm : i % 3 < 3 := Nat.mod_lt _ (by omega)
  rcases Nat.lt_or_ge (i / 3) l.length with h | h
  ·have h' : i / 3 < l'.length := by omega
   rw [List.getElem?_set]
   by_cases e : q * 3 + j = i
   ·have e1 : i / 3 = q := by omega
    have e2 : i % 3 = j := by omega
    rw [if_pos e, if_pos (by rw [flatE_len encS 3 encS_len]; omega)]
    rw [hi3, flatE_at encS 3 encS_len l' _ _ h' hm, e2]
    have := h2 (l[i / 3]) (l'[i / 3]) (by rw [<- e1]; exact List.getElem?_eq_getElem h) (by rw [<- e1]; exact List.getElem?_eq_getElem h')
    rw [this, List.getElem?_set_self (by rw [encS_len]; exact hj)]
   ·rw [if_neg e]
    conv => lhs; rw [hi3]
    conv => rhs; rw [hi3]
    rw [flatE_at encS 3 encS_len l _ _ h hm, flatE_at encS 3 encS_len l' _ _ h' hm]
    by_cases e1 : i / 3 = q
    ·have := h2 (l[i / 3]) (l'[i / 3]) (by rw [<- e1]; exact List.getElem?_eq_getElem h) (by rw [<- e1]; exact List.getElem?_eq_getElem h')
     rw [this, List.getElem?_set_ne (by omega)]
    ·have := h1 _ h e1
     rw [List.getElem?_eq_getElem h, List.getElem?_eq_getElem h'] at this
     injection this with this
     rw [this]
  ·rw [List.getElem?_eq_none, List.getElem?_eq_none]
   ·rw [flatE_len encS 3 encS_len]; omega
   ·rw [List.length_set, flatE_len encS 3 encS_len]; omega
theorem rowS_get {c : Nat} (fr to mk : Nat -> Nat) {i : Nat} : (rowS c fr to mk)[i]? = if i < c then some (fr i, to i, mk i) else none := by
 split
 ·rename_i h; exact rowS_at fr to mk h
 ·rename_i h; exact List.getElem?_eq_none (by rw [rowS_len]; omega)
theorem rowS_mk (c : Nat) (fr to mk : Nat -> Nat) (q v : Nat) : ((rowS c fr to mk).flatMap encS).set (q * 3 + 2) (.int .i64 (v : Int)) = (rowS c fr to (updN mk q v)).flatMap encS := by
 refine flatS_set _ _ q 2 _ (by omega) (by simp [rowS]) (fun i hi hne => ?_) (fun a b ha hb => ?_)
 ·rw [rowS_get, rowS_get, updN_ne _ _ hne]
 ·rw [rowS_get] at ha hb
  split at ha
  ·rw [if_pos (by assumption)] at hb
   injection ha with ha; injection hb with hb
   subst ha; subst hb; simp [encS, updN]
  ·cases ha
theorem rowS_fr (c : Nat) (fr to mk : Nat -> Nat) (q v : Nat) : ((rowS c fr to mk).flatMap encS).set (q * 3 + 0) (.int .i64 (v : Int)) = (rowS c (updN fr q v) to mk).flatMap encS := by
 refine flatS_set _ _ q 0 _ (by omega) (by simp [rowS]) (fun i hi hne => ?_) (fun a b ha hb => ?_)
 ·rw [rowS_get, rowS_get, updN_ne _ _ hne]
 ·rw [rowS_get] at ha hb
  split at ha
  ·rw [if_pos (by assumption)] at hb
   injection ha with ha; injection hb with hb
   subst ha; subst hb; simp [encS, updN]
  ·cases ha
theorem rowS_to (c : Nat) (fr to mk : Nat -> Nat) (q v : Nat) : ((rowS c fr to mk).flatMap encS).set (q * 3 + 1) (.int .i64 (v : Int)) = (rowS c fr (updN to q v) mk).flatMap encS := by
 refine flatS_set _ _ q 1 _ (by omega) (by simp [rowS]) (fun i hi hne => ?_) (fun a b ha hb => ?_)
 ·rw [rowS_get, rowS_get, updN_ne _ _ hne]
 ·rw [rowS_get] at ha hb
  split at ha
  ·rw [if_pos (by assumption)] at hb
   injection ha with ha; injection hb with hb
   subst ha; subst hb; simp [encS, updN]
  ·cases ha
end Go.Proofs.Ytjkcglgkdclidaa
namespace Go.Proofs.Ytjkcglgkdclidaa
open Go Go.RowKit Go.Proofs
theorem GoodN.congrM {N c : Nat} {A P f fr to mk : Nat -> Nat} {M M' : Nat -> Prop} {L : List Nat} (h : GoodN N A P f fr to mk c M L) (hM : ∀ x, x < N -> (M x ↔ M' x)) : GoodN N A P f fr to mk c M' L :=
 ⟨h.lt, h.pa, h.ap, h.span, h.mem, fun x hx => (hM x hx).symm.trans (h.mark x hx), h.touch, h.nodup⟩
section
variable {w wr w' : World} {B : Nat} {L : Lay} {N c0 c i gs cs q : Nat} {A P f f' fr to mk : Nat -> Nat} {M : Nat -> Prop} {Tl : List Nat}
theorem take_q (hi : i < Tl.length) (hq : Tl[i] = q) : Tl.take (i + 1) = Tl.take i ++ [q] := by rw [List.take_succ_eq_append_getElem hi, hq]
theorem drop_q (hi : i < Tl.length) (hq : Tl[i] = q) : Tl.drop i = q :: Tl.drop (i + 1) := by rw [List.drop_eq_getElem_cons hi, hq]
theorem fresh_q (hnd : Tl.Nodup) (hi : i < Tl.length) (hq : Tl[i] = q) : q ∉ Tl.take i := by
 intro h
 obtain ⟨j, hj, ej⟩ := List.getElem_of_mem h
 have hj' : j < i := by have := hj; simp at this; omega
 rw [List.getElem_take] at ej
 exact (List.pairwise_iff_getElem.1 hnd j i (by omega) hi hj') (by rw [ej, hq])
theorem marks_q (hi : i < Tl.length) (hq : Tl[i] = q) (hs : ∀ x, x < N -> f x ∉ Tl.take i -> f' x = f x) (x : Nat) (hx : x < N) : ((M x /\ f x ∉ Tl.take i) /\ f' x ≠ q) ↔ (M x /\ f x ∉ Tl.take (i + 1)) := by
 rw [take_q hi hq, List.mem_append, List.mem_singleton, not_or]
 constructor
 ·rintro ⟨⟨h1, h2⟩, h3⟩
  exact ⟨h1, h2, fun e => h3 (by rw [hs x hx h2]; exact e)⟩
 ·rintro ⟨h1, h2, h3⟩
  exact ⟨⟨h1, h2⟩, fun e => h3 (by rw [<- hs x hx h2]; exact e)⟩
end
theorem own_front0 {w : World} {B n c : Nat} {A : Option Addr} {l : List Int} (h : Own w B (.slice A n c) n l) : Own w B (.slice A 0 c) 0 [] := by
 rcases h.2 with ⟨e, h0⟩ | ⟨g, cap, cur, e, hg, hh, h1, h2, h3, _⟩
 ·simp only [Value.slice.injEq] at e
  obtain ⟨rfl, -, rfl⟩ := e
  exact Own.nil _ _
 ·simp only [Value.slice.injEq, true_and] at e
  obtain ⟨rfl, rfl⟩ := e
  exact ⟨rfl, .inr ⟨g, c, cur, rfl, hg, hh, Nat.zero_le _, h2, h3, by simp⟩⟩
end Go.Proofs.Ytjkcglgkdclidaa
namespace Go.Proofs.Ytjkcglgkdclidaa
open Go Go.RowKit Go.Proofs
def NextR (w : World) (v : Value) (T : List (List Nat)) : Prop :=
 ∃ a cap, v = .slice a T.length cap /\ T.length <= cap /\ cap <= maxLen /\ (a = none -> cap = 0) /\ ∀ i, i < T.length -> ∃ b off u, a = some ⟨b, off, none⟩ /\ w.cell? ⟨b, off + i, none⟩ = some u /\ ReadsI w u (T.getD i []).length (intsN (T.getD i []))
section
variable {w w' : World} {v : Value} {T : List (List Nat)}
theorem NextR.same (h : NextR w v T) (hk : ∀ b o x, w.cell? ⟨b, o, none⟩ = some x -> w'.cell? ⟨b, o, none⟩ = some x) : NextR w' v T := by
 obtain ⟨a, cap, h1, h2, h3, h4, h5⟩ := h
 refine ⟨a, cap, h1, h2, h3, h4, fun i hi => ?_⟩
 obtain ⟨b, off, u, e, hc, hr⟩ := h5 i hi
 exact ⟨b, off, u, e, hk _ _ _ hc, hr.same hk⟩
theorem NextR.below (h : NextR w v T) (hb : Below w.heap.size w w') : NextR w' v T := h.same fun b o x hx => bel_m hb hx
theorem NextR.form (h : NextR w v T) : ∃ a cap, v = .slice a T.length cap /\ T.length <= cap /\ cap <= 9223372036854775807 := by
 obtain ⟨a, cap, h1, h2, h3, _⟩ := h
 exact ⟨a, cap, h1, h2, by unfold maxLen at h3; exact h3⟩
theorem NextR.at_ {a : Option Addr} {n cap : Nat} (h : NextR w (.slice a n cap) T) {i : Nat} (hi : i < T.length) : ∃ b off A m c, a = some ⟨b, off, none⟩ /\ m = (T.getD i []).length /\ w.cell? ⟨b, off + i, none⟩ = some (.slice A m c) /\ ReadsI w (.slice A m c) m (intsN (T.getD i [])) /\ m <= c /\ c <= 9223372036854775807 := by
 obtain ⟨a', cap', h1, h2, h3, h4, h5⟩ := h
 simp only [Value.slice.injEq] at h1
 obtain ⟨rfl, -, rfl⟩ := h1
 obtain ⟨b, off, u, e, hc, hr⟩ := h5 i hi
 obtain ⟨A, c, e2, q1, q2, _⟩ := hr.form
 subst e2
 exact ⟨b, off, A, _, c, e, rfl, hc, hr, q1, q2⟩
end
end Go.Proofs.Ytjkcglgkdclidaa
