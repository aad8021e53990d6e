/- Contracts of the document's own Or, Not, And, Less. -/
import Derived.Test.YthbnhdocjnhhlaaSetR
namespace Go.Proofs.Ythbnhdocjnhhlaa
open Go Go.RowKit
set_option linter.unusedVariables false

/-- What the document's Not gathers: what lies ahead of each range, some of it empty. -/
def rgaps : Int → List (Int × Int) → List (Int × Int)
  | at_, [] => [(at_, 1114111)]
  | at_, r :: l => (at_, r.1 - 1) :: rgaps (r.2 + 1) l
theorem rgaps_cons (f : Int) (x y : Int) (l : List (Int × Int)) : rgaps f ((x, y) :: l) = (f, x - 1) :: rgaps (y + 1) l := rfl
theorem rgaps_norm (l : List (Int × Int)) : ∀ (lo at_ : Int), RtFrom lo l → at_ ≤ lo → ∀ n, inS (rgaps at_ l) n ↔ inS (gaps at_ l) n := by
  induction l with
  | nil =>
    intro lo at_ _ _ n
    unfold rgaps gaps
    split
    · exact Iff.rfl
    · rw [inS_one]; exact ⟨fun h => by omega, fun h => absurd h (inS_nil n)⟩
  | cons r l ih =>
    intro lo at_ h hle n
    obtain ⟨h1, h2, h3, h4⟩ := h
    have := ih (r.2 + 2) (r.2 + 1) h4 (by omega) n
    unfold rgaps gaps
    rw [inS_cons, this]
    split
    · rw [inS_cons]
    · exact ⟨fun h => by rcases h with h | h; omega; exact h, fun h => .inr h⟩
theorem rgaps_not {l : List (Int × Int)} (h : Rt l) : normL (rgaps 0 l) = notL l := by
  refine canon (normL_rt _) (notL_rt h) fun n => ?_
  rw [normL_in, rgaps_norm l 0 0 h (Int.le_refl _)]
  exact ⟨fun g => g.1, fun g => ⟨g, by have := (notL_rt h).num g; exact this⟩⟩
theorem rgaps_len (l : List (Int × Int)) : ∀ f, (rgaps f l).length = l.length + 1 := by
  induction l with
  | nil => intro f; rfl
  | cons r l ih => intro f; simp only [rgaps, List.length_cons, ih]

set_option maxHeartbeats 2000000 in
theorem rnot_any {w : World} {v : Value} {n : Nat} {l : List (Int × Int)} (h : ReadsP w v n l) (hr : Rt l) :
    Calls Try.prog 24 #[v] w (Tells w (notL l)) := by
  have h0 := h
  obtain ⟨a, cap, rfl, hc, hm, hl⟩ := h.form
  have hn : n ≤ 557056 := by rw [← hl]; exact hr.short
  have H0 := Lib.hid h0; clear h h0
  have HL := Lib.hid hl; clear hl
  have HR := Lib.hid hr; clear hr
  go_enter Try.func24, Try.ntmps24
  go_wp2_with fail
  go_loopw [3, 4, 5] (fun s f i wr => ∃ (k : Nat) (G : List (Int × Int)) (at_ : Int), k ≤ n ∧ i = .int .i64 k ∧ f = .int .i64 at_ ∧ 0 ≤ at_ ∧ at_ ≤ 1114112 ∧ Hid (rgaps 0 l = G ++ rgaps at_ (l.drop k)) ∧ Hid (OwnP wr w.heap.size s k G) ∧ Hid (Below w.heap.size w wr)) (fun _ _ i _ => n - (intOf i).toNat)
  case atStart => exact ⟨0, [], 0, Nat.zero_le _, rfl, rfl, by omega, by omega, Lib.hid rfl, Lib.hid (OwnP.nil _ _), Lib.hid (Below.refl _ _)⟩
  case round =>
    obtain ⟨k, G, at_, hk, rfl, rfl, hf0, hf1, hG, HV, HB⟩ := hrel
    have hz := HB.out.size
    by_cases hlt : k < n
    · have hrd := H0.out.below HB.out
      obtain ⟨b, off, rfl, hbl, c1, c2⟩ := H0.out.at k hlt
      have c1w := c1; have c2w := c2
      have c1 := (HB.out.cell (p := ⟨b, off + k * 2, none⟩) hbl).trans c1
      have c2 := (HB.out.cell (p := ⟨b, off + k * 2 + 1, none⟩) hbl).trans c2
      have hat := HR.out.atD k (by rw [HL.out]; exact hlt)
      have HD := Lib.hid (drop_at l k (by rw [HL.out]; exact hlt))
      clear hrd c1w c2w
      have i0 : (0 : Int) ≤ (k : Int) := Int.natCast_nonneg _
      have i1 : (k : Int) < (n : Int) := by omega
      generalize l.getD k (0, 0) = r at *
      obtain ⟨x, y⟩ := r
      simp only at c1 c2 hat
      obtain ⟨p1, p2, p3⟩ := hat
      go_wp2_with (at_builtin; refine wpList_pushP rfl (.tmp 12) (.tmp 21) rfl w.heap.size _ _ _ _ _ _ (by rfl) HV.out _ (by rfl) rfl (by omega) hz ?_
                   intro g1 c1' w2 hp1
                   have HP1 := Lib.hid hp1
                   have q2 := hp1.cell c2 (fun e => by have := (HV.out.lt _ e.symm).1; omega)
                   clear hp1)
      exact ⟨⟨k + 1, G ++ [(at_, x - 1)], y + 1, by omega, by go_num, rfl, by omega, by omega, Lib.hid (by rw [hG.out, HD.out, rgaps_cons]; simp), Lib.hid HP1.out.own, Lib.hid (HP1.out.below HB.out (Nat.le_refl _) hz)⟩, by simp [intOf]; omega⟩
    · have e : rgaps at_ (l.drop k) = [(at_, 1114111)] := by rw [List.drop_of_length_le (by have := HL.out; omega)]; rfl
      have HE := Lib.hid (show rgaps 0 l = G ++ [(at_, 1114111)] by rw [hG.out, e]); clear e
      go_wp2_with (at_builtin; refine wpList_pushP rfl (.tmp 29) (.tmp 32) rfl w.heap.size _ _ _ _ _ _ (by rfl) HV.out _ (by rfl) rfl (by omega) hz ?_
                   intro g1 c1 w2 hp1
                   have HP1 := Lib.hid hp1; clear hp1)
      have HBB := Lib.hid (HP1.out.below HB.out (Nat.le_refl _) hz)
      refine (rnorm_any HP1.out.own.reads (by omega)).mono ?_
      rintro e w6 ht
      have HTT := Lib.hid (ht.more HBB.out); clear ht
      obtain ⟨v3, rfl, h3, h4⟩ := HTT.out
      have H3 := Lib.hid h3; have H4 := Lib.hid h4; clear h3 h4
      go_wp2_with fail
      go_ret
      have ef : normL (G ++ [(at_, 1114111)]) = notL l := by rw [← HE.out, rgaps_not HR.out]
      rw [ef] at H3
      exact ⟨_, rfl, H3.out, H4.out⟩

theorem Rt.short2 {a b : List (Int × Int)} {n m : Nat} (ha : Rt a) (hb : Rt b) (hn : a.length = n) (hm : b.length = m) : n + m ≤ 100000000 := by
  have := ha.short; have := hb.short; omega
end Go.Proofs.Ythbnhdocjnhhlaa
