/- Contracts of part.edges. -/
import Derived.Test.YtfccnadbiglagaaGreatVSetI
import Derived.Test.YtfccnadbiglagaaGreatVShelfS
import Derived.Test.YtfccnadbiglagaaGreatVSetM
import Derived.Test.YtfccnadbiglagaaGreatVSetH
import Derived.Test.YtfccnadbiglagaaGreatVPlC
import Derived.Test.YtfccnadbiglagaaGreatVApart
import Derived.Test.YtfccnadbiglagaaGreatVLL
import Derived.Sort.OwnSortedInts
set_option linter.unusedVariables false
set_option linter.unusedSimpArgs false
set_option maxHeartbeats 4000000
namespace Go.Proofs.YtfccnadbiglagaaGreat
open Go Go.RowKit
def TellsI (w : World) (R : List Int) (e : Ending) (w' : World) : Prop := ∃ v, e = .returned v /\ Own w' w.heap.size v R.length R /\ Below w.heap.size w w'
theorem ReadsL.form {w : World} {v : Value} {k : Nat} {ls : List (List (Int × Int))} (h : ReadsL w v k ls) : ∃ a cap, v = .slice a k cap /\ k <= cap /\ cap <= 9223372036854775807 /\ ls.length = k := by
 obtain ⟨h1, a, cap, h2, h5, h6, _⟩ := h
 exact ⟨a, cap, h2, h5, by unfold maxLen at h6; exact h6, h1⟩
theorem ReadsL.same {w w' : World} {v : Value} {k : Nat} {ls : List (List (Int × Int))} (h : ReadsL w v k ls) (hk : ∀ b o x, w.cell? ⟨b, o, none⟩ = some x -> w'.cell? ⟨b, o, none⟩ = some x) : ReadsL w' v k ls := by
 obtain ⟨h1, a, cap, h2, h5, h6, h3, h4⟩ := h
 refine ⟨h1, a, cap, h2, h5, h6, h3, fun i hi => ?_⟩
 obtain ⟨b, off, u, e, hc, hr⟩ := h4 i hi
 exact ⟨b, off, u, e, hk _ _ _ hc, hr.same hk⟩
theorem Own.cast {w : World} {B : Nat} {v : Value} {n n' : Nat} {l l' : List Int} (h : Own w B v n l) (hn : n = n') (hl : l = l') : Own w B v n' l' := by subst hn; subst hl; exact h
theorem Own.at_len {w : World} {B n : Nat} {v : Value} {l : List Int} (h : Own w B v n l) : Own w B v l.length l := h.cast h.len.symm rfl
theorem edge1_len (l : List (Int × Int)) : (edge1 l).length <= 2 * l.length := by
 unfold edge1
 induction l with
 | nil => simp
 | cons r l ih =>
   rw [List.flatMap_cons, List.length_append, List.length_cons]
   split <;> simp only [List.length_cons, List.length_nil] <;> omega
theorem edge1_snoc (l : List (Int × Int)) (k : Nat) (hk : k < l.length) : edge1 (l.take (k + 1)) = edge1 (l.take k) ++ (if (l.getD k (0, 0)).2 < 1114111 then [(l.getD k (0, 0)).1, (l.getD k (0, 0)).2 + 1] else [(l.getD k (0, 0)).1]) := by
 unfold edge1
 have e : l.getD k (0, 0) = l[k] := by simp [List.getD, List.getElem?_eq_getElem hk]
 rw [List.take_succ_eq_append_getElem hk, List.flatMap_append, e]
 simp
theorem edges_snoc (ss : List (List (Int × Int))) (k : Nat) (hk : k < ss.length) : (ss.take (k + 1)).flatMap edge1 = (ss.take k).flatMap edge1 ++ edge1 (ss.getD k []) := by
 have e : ss.getD k [] = ss[k] := by simp [List.getD, List.getElem?_eq_getElem hk]
 rw [List.take_succ_eq_append_getElem hk, List.flatMap_append, e]
 simp
theorem RtAll.at {ss : List (List (Int × Int))} (h : RtAll ss) (k : Nat) (hk : k < ss.length) : Rt (ss.getD k []) := by
 have e : ss.getD k [] = ss[k] := by simp [List.getD, List.getElem?_eq_getElem hk]
 rw [e]; exact h _ (List.getElem_mem _)
theorem edges_len {ss : List (List (Int × Int))} (h : RtAll ss) : ∀ k, k <= ss.length -> ((ss.take k).flatMap edge1).length <= k * 1114112 := by
 intro k
 induction k with
 | zero => simp
 | succ k ih =>
   intro hk
   rw [edges_snoc ss k (by omega), List.length_append]
   have h1 := ih (by omega)
   have h2 := edge1_len (ss.getD k [])
   have h3 := (h.at k (by omega)).short
   omega
theorem sortI_any {w : World} {B n g cap : Nat} {l : List Int} (h : Own w B (.slice (some ⟨g, 0, none⟩) n cap) n l) (hn : n <= 1000000000) (hB : B <= w.heap.size) :
  Calls Tryz.prog 122 #[.slice (some ⟨g, 0, none⟩) n cap] w fun e w' =>
   e = .returned (.tuple #[]) /\ Own w' B (.slice (some ⟨g, 0, none⟩) n cap) n (l.mergeSort fun x y => decide (x <= y)) /\ Below B w w' := by
  have hl := h.len
  have hlen : (l.mergeSort fun x y => decide (x <= y)).length = l.length := List.length_mergeSort _
  rcases h.2 with ⟨h', _⟩ | ⟨g', cap', cur, h', hg, hh, hnc, hcm, hcs, ht⟩
  ·simp at h'
  ·simp only [Value.slice.injEq, Option.some.injEq, Addr.mk.injEq, and_true, true_and] at h'
   obtain ⟨rfl, rfl⟩ := h'
   have hlt := (Array.getElem?_eq_some_iff.1 hh).1
   have hH := holds_of_blockI (ss := l) hh (by rw [hl]; simpa using ht)
   have hcon := Any.slices_Sort_int Tryz.sortI g 0 cap l w hH hlt (by omega)
   change Calls Tryz.prog 122 _ _ _ at hcon
   rw [hl] at hcon
   refine hcon.mono ?_
   rintro e w' ⟨rfl, q, os, rfl⟩
   refine ⟨rfl, ?_, (Below.refl B w).grown (grownBy_sortedI (g := g) _) hB (fun k hk => by cases hk; exact hg)⟩
   have := ownsRow_sortedI (n := q) (os := os) (e := 3) (ss := l) (ts := l.mergeSort fun x y => decide (x <= y)) hlen hg hh (by omega) hcm hcs
   rw [hl] at this
   exact this
theorem Own.front {w : World} {B n m g cap : Nat} {l t : List Int} (h : Own w B (.slice (some ⟨g, 0, none⟩) n cap) n (l ++ t)) (hm : l.length = m) : Own w B (.slice (some ⟨g, 0, none⟩) m cap) m l := by
 have hl := h.len
 rw [List.length_append] at hl
 rcases h.2 with ⟨h', _⟩ | ⟨g', cap', cur, h', hg, hh, hnc, hcm, hcs, ht⟩
 ·simp at h'
 ·simp only [Value.slice.injEq, Option.some.injEq, Addr.mk.injEq, and_true, true_and] at h'
  obtain ⟨rfl, rfl⟩ := h'
  refine ⟨by simp [hm], .inr ⟨g, cap, cur, rfl, hg, hh, by omega, hcm, hcs, ?_⟩⟩
  have : (cur.toList.take (n * 1)).take (m * 1) = cur.toList.take (m * 1) := by rw [List.take_take]; congr 1; omega
  rw [<- this, ht, List.map_append, List.take_left' (by simp [hm])]
theorem compactI_any {w : World} {B n g cap : Nat} {l : List Int} (h : Own w B (.slice (some ⟨g, 0, none⟩) n cap) n l) (hn : n <= 1000000000) (hB : B <= w.heap.size) :
  Calls Tryz.prog 123 #[.slice (some ⟨g, 0, none⟩) n cap] w fun e w' =>
   e = .returned (.slice (some ⟨g, 0, none⟩) (Lib.compact l).length cap) /\ Own w' B (.slice (some ⟨g, 0, none⟩) (Lib.compact l).length cap) (Lib.compact l).length (Lib.compact l) /\ Below B w w' := by
  have hl := h.len
  have hlen : (Lib.compact l).length <= l.length := by unfold Lib.compact Lib.compactUpTo; rw [List.length_map]; exact Nat.le_trans (List.length_filter_le _ _) (by simp)
  rcases h.2 with ⟨h', _⟩ | ⟨g', cap', cur, h', hg, hh, hnc, hcm, hcs, ht⟩
  ·simp at h'
  ·simp only [Value.slice.injEq, Option.some.injEq, Addr.mk.injEq, and_true, true_and] at h'
   obtain ⟨rfl, rfl⟩ := h'
   have hH := holds_of_blockI (ss := l) hh (by rw [hl]; simpa using ht)
   have hcon := Any.slices_Compact_int Tryz.compactI g 0 cap l w hH (by omega) (by omega)
   change Calls Tryz.prog 123 _ _ _ at hcon
   rw [hl] at hcon
   refine hcon.mono ?_
   rintro e w' ⟨rfl, q, rfl⟩
   have e0 : Sort.putRow (Value.int .i64) (Sort.ahead w q) g 0 (Lib.compact l ++ List.replicate (n - (Lib.compact l).length) 0).toArray = Sort.grow (Sort.putRow (Value.int .i64) (Sort.ahead w q) g 0 (Lib.compact l ++ List.replicate (n - (Lib.compact l).length) 0).toArray) #[] := (Sort.grow_empty _).symm
   rw [e0]
   refine ⟨rfl, ?_, (Below.refl B w).grown (grownBy_sortedI (g := g) _) hB (fun k hk => by cases hk; exact hg)⟩
   have := ownsRow_sortedI (n := q) (os := #[]) (e := 3) (ss := l) (ts := Lib.compact l ++ List.replicate (n - (Lib.compact l).length) 0) (by simp; omega) hg hh (by omega) hcm hcs
   rw [hl] at this
   exact Own.front this rfl
theorem Own.ne_top {w : World} {B n : Nat} {v : Value} {l : List Int} (h : Own w B v n l) : some w.heap.size ≠ v.ownBlock := fun e => by have := (h.lt _ e.symm).2; omega
theorem edges_any {w : World} {v : Value} {k0 : Nat} {ss : List (List (Int × Int))} (h : ReadsL w v k0 ss) (hr : RtAll ss) (hk0 : k0 <= 13) :
  Calls Tryz.prog 93 #[v] w (TellsI w (cutsL ss)) := by
  obtain ⟨a, cap, rfl, hc, hm, hl⟩ := h.form
  have H := Lib.hid h; have HR := Lib.hid hr; have HL := Lib.hid hl; clear h hr hl
  go_enter Tryz.func93, Tryz.ntmps93
  go_wp2_with fail
  go_loopw [3, 11] (fun s i wr => ∃ (k m : Nat), k <= k0 /\ m <= 1 + k * 1114112 /\ i = .int .i64 k /\ Hid (Own wr w.heap.size s m (0 :: (ss.take k).flatMap edge1)) /\ Hid (Below w.heap.size w wr)) (fun _ i _ => k0 - (intOf i).toNat)
  case atStart => exact ⟨0, 1, Nat.zero_le _, Nat.le_refl _, rfl, Lib.hid ⟨rfl, .inr ⟨_, _, _, rfl, Nat.le_refl _, heap_alloc_new w _, Nat.le_refl _, by unfold maxLen; omega, rfl, rfl⟩⟩, Lib.hid ((Below.refl _ _).alloc (Nat.le_refl _) _)⟩
  case round =>
   obtain ⟨k, m, hk, hm9, rfl, HV, HB⟩ := hrel
   have hz := HB.out.size
   have i0 : (0 : Int) <= (k : Int) := Int.natCast_nonneg _
   by_cases hlt : k < k0
   ·have i1 : (k : Int) < (k0 : Int) := by omega
    have t1 : decide (k < k0) = true := by simpa using hlt
    obtain ⟨b, off, u, rfl, c1, hu⟩ := H.out.at k hlt
    have hbl := World.block_lt_of_cell? w _ c1
    have c1 := (HB.out.cell (p := ⟨b, off + k, none⟩) hbl).trans c1
    have HRk := Lib.hid (HR.out.at k (by rw [HL.out]; exact hlt))
    have SN := Lib.hid (edges_snoc ss k (by rw [HL.out]; exact hlt))
    have hle := edge1_len (ss.getD k [])
    have hsh := HRk.out.short
    generalize ss.getD k [] = l at *
    obtain ⟨a2, cap2, rfl, hc2, hm2, hl2⟩ := hu.form
    have HU := Lib.hid hu; clear hu
    clear hl2
    generalize hn2 : l.length = n2 at *
    have HN2 : Hid (n2 = l.length) := Lib.hid hn2.symm
    clear hn2
    go_wp2_with fail
    go_loopw [3, 17] (fun s i wr2 => ∃ (j m2 : Nat), j <= n2 /\ m2 <= m + 2 * j /\ i = .int .i64 j /\ Hid (Own wr2 w.heap.size s m2 (0 :: ((ss.take k).flatMap edge1 ++ edge1 (l.take j)))) /\ Hid (Below w.heap.size w wr2)) (fun _ i _ => n2 - (intOf i).toNat)
    case atStart => exact ⟨0, m, Nat.zero_le _, Nat.le_refl _, rfl, Lib.hid (HV.out.cast rfl (by simp [edge1])), HB⟩
    case round =>
     obtain ⟨j, m2, hj, hm29, rfl, HV2, HB2⟩ := hrel
     have hz2 := HB2.out.size
     have j0 : (0 : Int) <= (j : Int) := Int.natCast_nonneg _
     by_cases hlt2 : j < n2
     ·have j1 : (j : Int) < (n2 : Int) := by omega
      have t2 : decide (j < n2) = true := by simpa using hlt2
      obtain ⟨b3, off3, rfl, hbl3, d1, d2⟩ := HU.out.at j hlt2
      have d1 := (HB2.out.cell (p := ⟨b3, off3 + j * 2, none⟩) hbl3).trans d1
      have d2 := (HB2.out.cell (p := ⟨b3, off3 + j * 2 + 1, none⟩) hbl3).trans d2
      have hat := HRk.out.atD j (by rw [<- HN2.out]; exact hlt2)
      have SE := Lib.hid (edge1_snoc l j (by rw [<- HN2.out]; exact hlt2))
      generalize l.getD j (0, 0) = r at *
      obtain ⟨x, y⟩ := r
      simp only at d1 d2 hat
      obtain ⟨p1, p2, p3⟩ := hat
      have hm2b : m2 <= 1000000000 := by omega
      have hap := HV2.out.lt
      by_cases hy : y < 1114111
      ·rw [if_pos hy] at SE
       go_wp2_with (first
        | (at_builtin; go_loud (refine wpList_pushH rfl (.tmp 21) (.tmp 24) rfl w.heap.size _ _ _ _ _ (by rfl) (HV2.out.alloc _) _ (by rfl) (by simp) (by omega) (by simp; omega) ?_)
           intro g1 c1 w2 hp1
           have HP1 := Lib.hid hp1
           have q1 := hp1.cell (new2 wr _ _ _).2 (by simp) HV2.out.ne_top
           have hz3 := (hp1.below (HB2.out.alloc hz2 _) (Nat.le_refl _) (by simp; omega)).size
           clear hp1)
        | (at_builtin; refine wpList_push rfl (.tmp 29) (.tmp 33) rfl w.heap.size _ _ _ _ _ (by rfl) HP1.out.own (by rfl) (by omega) hz3 ?_
           intro g4 c4 w4 hp4
           have HP4 := Lib.hid hp4
           clear hp4))
       refine ⟨⟨j + 1, m2 + 1 + 1, by omega, by omega, by go_num, ?_, ?_⟩, by simp [intOf]; omega⟩
       ·refine Lib.hid (HP4.out.own.cast rfl ?_)
        rw [SE.out]; simp
       ·exact Lib.hid (HP4.out.below (HP1.out.below (HB2.out.alloc hz2 _) (Nat.le_refl _) (by simp; omega)) (Nat.le_refl _) hz3)
      ·rw [if_neg hy] at SE
       go_wp2_with (first
        | (at_builtin; go_loud (refine wpList_pushH rfl (.tmp 21) (.tmp 24) rfl w.heap.size _ _ _ _ _ (by rfl) (HV2.out.alloc _) _ (by rfl) (by simp) (by omega) (by simp; omega) ?_)
           intro g1 c1 w2 hp1
           have HP1 := Lib.hid hp1
           have q1 := hp1.cell (new2 wr _ _ _).2 (by simp) HV2.out.ne_top
           clear hp1))
       refine ⟨⟨j + 1, m2 + 1, by omega, by omega, by go_num, ?_, ?_⟩, by simp [intOf]; omega⟩
       ·refine Lib.hid (HP1.out.own.cast rfl ?_)
        rw [SE.out]; simp
       ·exact Lib.hid (HP1.out.below (HB2.out.alloc hz2 _) (Nat.le_refl _) (by simp; omega))
     ·have e : l.take j = l := List.take_of_length_le (by rw [<- HN2.out]; omega)
      have HE := Lib.hid e; clear e
      go_wp2_with fail
      exact ⟨⟨k + 1, m2, by omega, by omega, by go_num, Lib.hid (HV2.out.cast rfl (by rw [HE.out, SN.out])), HB2⟩, by simp [intOf]; omega⟩
   ·have e : ss.take k = ss := List.take_of_length_le (by rw [HL.out]; omega)
    have HE := Lib.hid e; clear e
    obtain ⟨E, hE⟩ : ∃ E, E = edgesL ss := ⟨_, rfl⟩
    have HV3 : Hid (Own wr w.heap.size u3 m E) := Lib.hid (HV.out.cast rfl (by rw [HE.out, hE]; rfl))
    have HC : Hid (cutsL ss = Lib.compact (E.mergeSort fun x y => decide (x <= y))) := Lib.hid (by rw [hE]; rfl)
    have HNE : Hid (E ≠ []) := Lib.hid (by rw [hE]; unfold edgesL; simp)
    clear hE HV HE
    have hm2 : m <= 1000000000 := by omega
    rcases HV3.out.form with ⟨_, _, h0⟩ | ⟨g, cap3, rfl, _⟩
    ·exact absurd h0 HNE.out
    go_wp2_with fail
    refine (sortI_any HV3.out hm2 hz).mono ?_
    rintro e w2 ⟨rfl, h1, h2⟩
    have HV4 := Lib.hid h1; have HB4 := Lib.hid (HB.out.trans h2); clear h1 h2 HV3
    generalize (E.mergeSort fun x y => decide (x <= y)) = S at *
    have hz4 := HB4.out.size
    go_wp2_with fail
    refine (compactI_any HV4.out hm2 hz4).mono ?_
    rintro e w3 ⟨rfl, h1, h2⟩
    have HV5 := Lib.hid h1; have HB5 := Lib.hid (HB4.out.trans h2); clear h1 h2
    generalize Lib.compact S = R at *
    go_wp2_with fail
    go_ret
    exact ⟨_, rfl, by rw [HC.out]; exact HV5.out, HB5.out⟩
end Go.Proofs.YtfccnadbiglagaaGreat
