/- Contract of set.Not. -/
import Derived.Test.YtfccnadbiglagaaGreatVSetA
set_option linter.unusedVariables false
set_option linter.unusedSimpArgs false
set_option maxHeartbeats 1000000
namespace Go.Proofs.YtfccnadbiglagaaGreat
open Go Go.RowKit
theorem gaps_cons (f : Int) (r : Int × Int) (l : List (Int × Int)) : gaps f (r :: l) = if f < r.1 then (f, r.1 - 1) :: gaps (r.2 + 1) l else gaps (r.2 + 1) l := rfl
theorem drop_at (l : List (Int × Int)) (k : Nat) (hk : k < l.length) : l.drop k = l.getD k (0, 0) :: l.drop (k + 1) := by
 have e : l.getD k (0, 0) = l[k] := by simp [List.getD, List.getElem?_eq_getElem hk]
 rw [e, List.drop_eq_getElem_cons hk]
theorem Rt.atD {l : List (Int × Int)} (h : Rt l) (k : Nat) (hk : k < l.length) : 0 <= (l.getD k (0, 0)).1 /\ (l.getD k (0, 0)).1 <= (l.getD k (0, 0)).2 /\ (l.getD k (0, 0)).2 <= 1114111 := by
 have e : l.getD k (0, 0) = l[k] := by simp [List.getD, List.getElem?_eq_getElem hk]
 rw [e]; exact h.at k hk
theorem OwnP.cast {w : World} {B : Nat} {v : Value} {n n' : Nat} {l l' : List (Int × Int)} (h : OwnP w B v n l) (hn : n = n') (hl : l = l') : OwnP w B v n' l' := by subst hn; subst hl; exact h
theorem not_any {w : World} {v : Value} {n : Nat} {l : List (Int × Int)} (h : ReadsP w v n l) (hr : Rt l) :
  Calls Tryz.prog 117 #[v] w (Tells w (notL l)) := by
  have h0 := h
  obtain ⟨a, cap, rfl, hc, hm, hl⟩ := h.form
  have hn : n <= 557056 := by rw [<- hl]; exact hr.short
  have H0 := Lib.hid h0; clear h h0
  have HL := Lib.hid hl; clear hl
  have HR := Lib.hid hr; clear hr
  go_enter Tryz.func117, Tryz.ntmps117
  go_wp2_with fail
  go_loopw [3, 4, 9] (fun s f i wr => ∃ (k : Nat) (G : List (Int × Int)) (m : Nat) (at_ : Int), k <= n /\ m <= k /\ i = .int .i64 k /\ f = .int .i64 at_ /\ 0 <= at_ /\ at_ <= 1114112 /\ Hid (notL l = G ++ gaps at_ (l.drop k)) /\ OwnP wr w.heap.size s m G /\ Below w.heap.size w wr) (fun _ _ i _ => n - (intOf i).toNat)
  case atStart => exact ⟨0, [], 0, 0, Nat.zero_le _, Nat.le_refl _, rfl, rfl, by omega, by omega, Lib.hid rfl, OwnP.nil _ _, Below.refl _ _⟩
  case round =>
   obtain ⟨k, G, m, at_, hk, hmk, rfl, rfl, hf0, hf1, hG, hown, hb⟩ := hrel
   have HV := Lib.hid hown; have HB := Lib.hid hb; have hz := hb.size;
   by_cases hlt : k < n
   ·have hrd := H0.out.below hb
    obtain ⟨b, off, rfl, hbl, c1, c2⟩ := hrd.at k hlt
    have hat := HR.out.atD k (by rw [HL.out]; exact hlt)
    have HD := Lib.hid (drop_at l k (by rw [HL.out]; exact hlt))
    clear hrd hown hb
    have i0 : (0 : Int) <= (k : Int) := Int.natCast_nonneg _
    have i1 : (k : Int) < (n : Int) := by omega
    generalize l.getD k (0, 0) = r at *
    obtain ⟨x, y⟩ := r
    simp only at c1 c2 hat
    obtain ⟨p1, p2, p3⟩ := hat
    by_cases hc1 : at_ < x
    ·go_wp2_with (at_builtin; refine wpList_pushP rfl (.tmp 17) (.tmp 23) rfl w.heap.size _ _ _ _ _ _ (by rfl) (HV.out.alloc _) _ (by rfl) (by simp) (by omega) (by simp; omega) ?_
                  intro g1 c1 w2 hp1
                  have HP1 := Lib.hid hp1
                  have q1 := hp1.cell (new2 wr _ _ _).2 HV.out.ne_top
                  clear hp1)
     refine ⟨⟨k + 1, G ++ [(at_, x - 1)], m + 1, y + 1, by omega, by omega, by go_num, rfl, by omega, by omega, ?_, HP1.out.own, HP1.out.below (HB.out.alloc hz _) (Nat.le_refl _) (by simp; omega)⟩, by simp [intOf]; omega⟩
     refine Lib.hid ?_
     rw [hG.out, HD.out, gaps_cons, if_pos hc1]
     simp
    ·go_wp2_with fail
     refine ⟨⟨k + 1, G, m, y + 1, by omega, by omega, by go_num, rfl, by omega, by omega, ?_, HV.out.alloc _, HB.out.alloc hz _⟩, by simp [intOf]; omega⟩
     refine Lib.hid ?_
     rw [hG.out, HD.out, gaps_cons, if_neg hc1]
   ·clear hown hb
    have e : gaps at_ (l.drop k) = if at_ <= 1114111 then [(at_, 1114111)] else [] := by rw [List.drop_of_length_le (by have := HL.out; omega)]; rfl
    have HE := Lib.hid e; clear e
    by_cases hc1 : at_ <= 1114111
    ·go_wp2_with (at_builtin; refine wpList_pushP rfl (.tmp 31) (.tmp 34) rfl w.heap.size _ _ _ _ _ _ (by rfl) HV.out _ (by rfl) rfl (by omega) hz ?_
                  intro g1 c1 w2 hp1
                  have HP1 := Lib.hid hp1; clear hp1)
     go_ret
     refine ⟨_, rfl, HP1.out.own.cast ?_ ?_, HP1.out.below HB.out (Nat.le_refl _) hz⟩
     ·rw [hG.out, HE.out, if_pos hc1]; simp; exact HV.out.len.symm
     ·rw [hG.out, HE.out, if_pos hc1]
    ·go_wp2_with fail
     go_ret
     refine ⟨_, rfl, HV.out.cast ?_ ?_, HB.out⟩
     ·rw [hG.out, HE.out, if_neg (by omega)]; simp; exact HV.out.len.symm
     ·rw [hG.out, HE.out, if_neg (by omega)]; simp
end Go.Proofs.YtfccnadbiglagaaGreat
