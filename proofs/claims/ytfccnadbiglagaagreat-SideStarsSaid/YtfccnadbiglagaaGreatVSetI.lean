/- Contract of the document's own sorted: ranges that have numbers, clipped, put by their beginnings. Contract of the document's own Norm. Contracts of the law texts' Raw and Make. -/
import Derived.Test.YtfccnadbiglagaaGreatVSetM
import Derived.BigRegion
import Derived.Deep.RegionLaw
import Derived.Test.YtfccnadbiglagaaGreatVSetD
import Derived.Test.YtfccnadbiglagaaGreatVSmall
set_option linter.unusedVariables false
set_option linter.unusedSimpArgs false
namespace Go.Proofs.YtfccnadbiglagaaGreat
open Go Go.RowKit
theorem ReadsP.take {w : World} {a : Option Addr} {cap n k : Nat} {l : List (Int × Int)} (h : ReadsP w (.slice a n cap) n l) (hk : k <= n) : ReadsP w (.slice a k cap) k (l.take k) := by
 obtain ⟨h1, a', cap', h2, h5, h6, h3, h4⟩ := h
 simp only [Value.slice.injEq, true_and] at h2
 obtain ⟨rfl, rfl⟩ := h2
 refine ⟨by simp; omega, a, cap, rfl, by omega, h6, h3, fun i hi => ?_⟩
 obtain ⟨b, off, e, hc⟩ := h4 i (by omega)
 refine ⟨b, off, e, fun j hj => ?_⟩
 have := hc j (by omega)
 rw [show (l.take k).getD j (0, 0) = l.getD j (0, 0) by simp [List.getD, hj]]
 exact this
def Srt (S m : List (Int × Int)) : Prop := Full S /\ ByLo S /\ ∀ n, inS S n ↔ inS m n
theorem Srt.put {S m : List (Int × Int)} {p q : Int} (h : Srt S m) (k : Nat) (h0 : 0 <= p) (h1 : p <= q) (h2 : q <= 1114111) (ht : ∀ r ∈ S.take k, r.1 <= p) (hd : ∀ r ∈ S.drop k, p < r.1) : Srt (S.take k ++ [(p, q)] ++ S.drop k) (m ++ [(p, q)]) := by
 obtain ⟨a1, a2, a3⟩ := put_in (x := (p, q)) k h.2.1 h.1 ⟨h0, h1, h2⟩ ht (fun r hr => by have := hd r hr; simp only; omega)
 rw [List.append_assoc, List.singleton_append]
 exact ⟨a2, a1, fun n => by rw [a3, h.2.2, inS_append, inS_one]⟩
end Go.Proofs.YtfccnadbiglagaaGreat
namespace Go.Proofs.YtfccnadbiglagaaGreat
open Go Go.RowKit
theorem OwnP.thaw {w : World} {B g cap n : Nat} {l : List (Int × Int)} (h : OwnP w B (.slice (some ⟨g, 0, none⟩) n cap) n l) (j : Nat) : w.frozen? ⟨g, j, none⟩ = false := World.ownsRow.frozenAt h j
def Jnd (S R : List (Int × Int)) (k : Nat) : Prop := Rt R /\ (∀ n, inS R n ↔ inS (S.take k) n) /\ ∀ r ∈ R, ∀ x ∈ S.drop k, r.1 <= x.1
theorem Jnd.grow {S R : List (Int × Int)} {k : Nat} {a h c d : Int} (hS : ByLo S) (hk : k < S.length) (hx : S.getD k (0, 0) = (c, d)) (hf : 0 <= c /\ c <= d /\ d <= 1114111) (hj : Jnd S (R ++ [(a, h)]) k) (ht : c <= h + 1) : Jnd S (R ++ [(a, max h d)]) (k + 1) := by
 obtain ⟨h1, h2, h3⟩ := hj
 have hd := drop_at S k hk
 rw [hx] at hd
 have hac : a <= c := h3 (a, h) (by simp) (c, d) (by rw [hd]; exact List.mem_cons_self)
 obtain ⟨p, q⟩ := join_last h1 hac ht hf.2.1 hf.2.2
 have e : S.take (k + 1) = S.take k ++ [(c, d)] := by
  rw [List.take_succ_eq_append_getElem hk]
  have e : S.getD k (0, 0) = S[k] := by simp [List.getD, List.getElem?_eq_getElem hk]
  rw [<- e, hx]
 refine ⟨p, fun n => by rw [q, h2, e, inS_append, inS_one], fun r hr x hx' => ?_⟩
 have hxx : x ∈ S.drop k := by rw [hd]; exact List.mem_cons_of_mem _ hx'
 rcases List.mem_append.1 hr with hr | hr
 ·exact h3 r (by simp [hr]) x hxx
 ·obtain rfl : r = (a, max h d) := by simpa using hr
  exact h3 (a, h) (by simp) x hxx
theorem Jnd.push {S R : List (Int × Int)} {k : Nat} {c d : Int} (hS : ByLo S) (hk : k < S.length) (hx : S.getD k (0, 0) = (c, d)) (hf : 0 <= c /\ c <= d /\ d <= 1114111) (hj : Jnd S R k) (ht : ∀ r ∈ R, r.2 + 2 <= c) : Jnd S (R ++ [(c, d)]) (k + 1) := by
 obtain ⟨h1, h2, h3⟩ := hj
 have hd := drop_at S k hk
 rw [hx] at hd
 obtain ⟨p, q⟩ := new_last h1 hf.1 ht hf.2.1 hf.2.2
 have e : S.take (k + 1) = S.take k ++ [(c, d)] := by
  rw [List.take_succ_eq_append_getElem hk]
  have e : S.getD k (0, 0) = S[k] := by simp [List.getD, List.getElem?_eq_getElem hk]
  rw [<- e, hx]
 refine ⟨p, fun n => by rw [q, h2, e, inS_append, inS_one], fun r hr x hx' => ?_⟩
 have hxx : x ∈ S.drop k := by rw [hd]; exact List.mem_cons_of_mem _ hx'
 rcases List.mem_append.1 hr with hr | hr
 ·exact h3 r hr x hxx
 ·obtain rfl : r = (c, d) := by simpa using hr
  have hb : ByLo (S.drop k) := List.Pairwise.sublist (List.drop_sublist k S) hS
  rw [hd] at hb
  exact (List.pairwise_cons.1 hb).1 x hx'
theorem Jnd.done {S R l : List (Int × Int)} {k : Nat} (hj : Jnd S R k) (hk : S.length <= k) (hs : Srt S (clipL l)) : R = normL l := by
 refine canon hj.1 (normL_rt _) fun n => ?_
 rw [hj.2.1, List.take_of_length_le hk, hs.2.2, clipL_in, normL_in]
end Go.Proofs.YtfccnadbiglagaaGreat
namespace Go.Proofs.YtfccnadbiglagaaGreat
open Go Go.RowKit
theorem OwnP.at_len {w : World} {B n : Nat} {v : Value} {l : List (Int × Int)} (h : OwnP w B v n l) : OwnP w B v l.length l := h.cast h.len.symm rfl
end Go.Proofs.YtfccnadbiglagaaGreat
