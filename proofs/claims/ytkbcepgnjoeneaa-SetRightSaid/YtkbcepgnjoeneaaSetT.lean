/- Contracts of the document's own Or, Not, And, Less. -/
import Derived.Test.YtkbcepgnjoeneaaSetR
namespace Go.Proofs.Ytkbcepgnjoeneaa
open Go Go.RowKit
set_option linter.unusedVariables false

theorem ror_any {w : World} {v u : Value} {n m : Nat} {a b : List (Int × Int)} (h : ReadsP w v n a) (h' : ReadsP w u m b) (hn : n + m ≤ 100000000) :
    Calls Try.prog 25 #[v, u] w (Tells w (orL a b)) := by
  have H := Lib.hid h; have H' := Lib.hid h'; clear h h'
  have O0 := Lib.hid (OwnP.empty w)
  go_enter Try.func25, Try.ntmps25
  go_wp2_with (first
    | (at_builtin; refine wpList_concatP rfl (.tmp 5) (.tmp 6) rfl w.heap.size _ 0 [] (by rfl) O0.out _ n a (by rfl) (H.out.alloc _) (by omega) (by simp) ?_
       intro v4 w4 h1 h2 _ _
       have HO4 := Lib.hid h1
       have HB4 := Lib.hid (((Below.refl w.heap.size w).alloc (Nat.le_refl _) _).trans h2)
       have hz4 := HB4.out.size
       clear h1 h2)
    | (at_builtin; refine wpList_concatP rfl (.tmp 7) (.tmp 8) rfl w.heap.size v4 (0 + n) ([] ++ a) (by rfl) HO4.out _ m b (by rfl) (H'.out.below HB4.out) (by omega) hz4 ?_
       intro v5 w5 h1 h2 _ _
       have HO5 := Lib.hid h1
       have HB5 := Lib.hid (HB4.out.trans h2)
       clear h1 h2))
  refine (rnorm_any HO5.out.reads (by omega)).mono ?_
  rintro e w6 ht
  have HTT := Lib.hid (ht.more HB5.out); clear ht
  obtain ⟨v3, rfl, h3, h4⟩ := HTT.out
  have H3 := Lib.hid h3; have H4 := Lib.hid h4; clear h3 h4
  go_wp2_with fail
  go_ret
  exact ⟨_, rfl, by simpa [orL] using H3.out, H4.out⟩

/-- What the document's Not gathers: what lies ahead of each range, some of it empty. -/
def rgaps : Int → List (Int × Int) → List (Int × Int)
  | at_, [] => [(at_, 1114111)]
  | at_, r :: l => (at_, r.1 - 1) :: rgaps (r.2 + 1) l
theorem rgaps_cons (f : Int) (x y : Int) (l : List (Int × Int)) : rgaps f ((x, y) :: l) = (f, x - 1) :: rgaps (y + 1) l := rfl
theorem rgaps_norm (l : List (Int × Int)) : ∀ (lo at_ : Int), RtFrom lo l → at_ ≤ lo → ∀ n, inS (rgaps at_ l) n ↔ inS (gaps at_ l) n := by
  induction l with
  | nil =>
    intro lo at_ _ _ n
    unfold rgaps gaps
    split
    · exact Iff.rfl
    · rw [inS_one]; exact ⟨fun h => by omega, fun h => absurd h (inS_nil n)⟩
  | cons r l ih =>
    intro lo at_ h hle n
    obtain ⟨h1, h2, h3, h4⟩ := h
    have := ih (r.2 + 2) (r.2 + 1) h4 (by omega) n
    unfold rgaps gaps
    rw [inS_cons, this]
    split
    · rw [inS_cons]
    · exact ⟨fun h => by rcases h with h | h; omega; exact h, fun h => .inr h⟩
theorem rgaps_not {l : List (Int × Int)} (h : Rt l) : normL (rgaps 0 l) = notL l := by
  refine canon (normL_rt _) (notL_rt h) fun n => ?_
  rw [normL_in, rgaps_norm l 0 0 h (Int.le_refl _)]
  exact ⟨fun g => g.1, fun g => ⟨g, by have := (notL_rt h).num g; exact this⟩⟩
theorem rgaps_len (l : List (Int × Int)) : ∀ f, (rgaps f l).length = l.length + 1 := by
  induction l with
  | nil => intro f; rfl
  | cons r l ih => intro f; simp only [rgaps, List.length_cons, ih]

set_option maxHeartbeats 2000000 in
theorem rnot_any {w : World} {v : Value} {n : Nat} {l : List (Int × Int)} (h : ReadsP w v n l) (hr : Rt l) :
    Calls Try.prog 27 #[v] w (Tells w (notL l)) := by
  have h0 := h
  obtain ⟨a, cap, rfl, hc, hm, hl⟩ := h.form
  have hn : n ≤ 557056 := by rw [← hl]; exact hr.short
  have H0 := Lib.hid h0; clear h h0
  have HL := Lib.hid hl; clear hl
  have HR := Lib.hid hr; clear hr
  go_enter Try.func27, Try.ntmps27
  go_wp2_with fail
  go_loopw [3, 4, 5] (fun s f i wr => ∃ (k : Nat) (G : List (Int × Int)) (at_ : Int), k ≤ n ∧ i = .int .i64 k ∧ f = .int .i64 at_ ∧ 0 ≤ at_ ∧ at_ ≤ 1114112 ∧ Hid (rgaps 0 l = G ++ rgaps at_ (l.drop k)) ∧ Hid (OwnP wr w.heap.size s k G) ∧ Hid (Below w.heap.size w wr)) (fun _ _ i _ => n - (intOf i).toNat)
  case atStart => exact ⟨0, [], 0, Nat.zero_le _, rfl, rfl, by omega, by omega, Lib.hid rfl, Lib.hid (OwnP.nil _ _), Lib.hid (Below.refl _ _)⟩
  case round =>
    obtain ⟨k, G, at_, hk, rfl, rfl, hf0, hf1, hG, HV, HB⟩ := hrel
    have hz := HB.out.size
    by_cases hlt : k < n
    · have hrd := H0.out.below HB.out
      obtain ⟨b, off, rfl, hbl, c1, c2⟩ := H0.out.at k hlt
      have c1w := c1; have c2w := c2
      have c1 := (HB.out.cell (p := ⟨b, off + k * 2, none⟩) hbl).trans c1
      have c2 := (HB.out.cell (p := ⟨b, off + k * 2 + 1, none⟩) hbl).trans c2
      have hat := HR.out.atD k (by rw [HL.out]; exact hlt)
      have HD := Lib.hid (drop_at l k (by rw [HL.out]; exact hlt))
      clear hrd c1w c2w
      have i0 : (0 : Int) ≤ (k : Int) := Int.natCast_nonneg _
      have i1 : (k : Int) < (n : Int) := by omega
      generalize l.getD k (0, 0) = r at *
      obtain ⟨x, y⟩ := r
      simp only at c1 c2 hat
      obtain ⟨p1, p2, p3⟩ := hat
      go_wp2_with (at_builtin; refine wpList_pushP rfl (.tmp 12) (.tmp 21) rfl w.heap.size _ _ _ _ _ _ (by rfl) HV.out _ (by rfl) rfl (by omega) hz ?_
                   intro g1 c1' w2 hp1
                   have HP1 := Lib.hid hp1
                   have q2 := hp1.cell c2 (fun e => by have := (HV.out.lt _ e.symm).1; omega)
                   clear hp1)
      exact ⟨⟨k + 1, G ++ [(at_, x - 1)], y + 1, by omega, by go_num, rfl, by omega, by omega, Lib.hid (by rw [hG.out, HD.out, rgaps_cons]; simp), Lib.hid HP1.out.own, Lib.hid (HP1.out.below HB.out (Nat.le_refl _) hz)⟩, by simp [intOf]; omega⟩
    · have e : rgaps at_ (l.drop k) = [(at_, 1114111)] := by rw [List.drop_of_length_le (by have := HL.out; omega)]; rfl
      have HE := Lib.hid (show rgaps 0 l = G ++ [(at_, 1114111)] by rw [hG.out, e]); clear e
      go_wp2_with (at_builtin; refine wpList_pushP rfl (.tmp 29) (.tmp 32) rfl w.heap.size _ _ _ _ _ _ (by rfl) HV.out _ (by rfl) rfl (by omega) hz ?_
                   intro g1 c1 w2 hp1
                   have HP1 := Lib.hid hp1; clear hp1)
      have HBB := Lib.hid (HP1.out.below HB.out (Nat.le_refl _) hz)
      refine (rnorm_any HP1.out.own.reads (by omega)).mono ?_
      rintro e w6 ht
      have HTT := Lib.hid (ht.more HBB.out); clear ht
      obtain ⟨v3, rfl, h3, h4⟩ := HTT.out
      have H3 := Lib.hid h3; have H4 := Lib.hid h4; clear h3 h4
      go_wp2_with fail
      go_ret
      have ef : normL (G ++ [(at_, 1114111)]) = notL l := by rw [← HE.out, rgaps_not HR.out]
      rw [ef] at H3
      exact ⟨_, rfl, H3.out, H4.out⟩

theorem Rt.short2 {a b : List (Int × Int)} {n m : Nat} (ha : Rt a) (hb : Rt b) (hn : a.length = n) (hm : b.length = m) : n + m ≤ 100000000 := by
  have := ha.short; have := hb.short; omega
theorem rand_any {w : World} {v u : Value} {n m : Nat} {a b : List (Int × Int)} (h : ReadsP w v n a) (h' : ReadsP w u m b) (ha : Rt a) (hb : Rt b) :
    Calls Try.prog 26 #[v, u] w (Tells w (andL a b)) := by
  have H := Lib.hid h; have H' := Lib.hid h'; have HA := Lib.hid ha; have HB := Lib.hid hb; clear h h' ha hb
  go_enter Try.func26, Try.ntmps26
  go_wp2_with fail
  refine (rnot_any H.out HA.out).mono ?_
  rintro e w1 ⟨v1, rfl, h1, h2⟩
  have O1 := Lib.hid h1; have B1 := Lib.hid h2; clear h1 h2
  go_wp2_with fail
  refine (rnot_any (H'.out.below B1.out) HB.out).mono ?_
  rintro e w2 ⟨v2, rfl, h1, h2⟩
  have O2 := Lib.hid h1
  have O1' := Lib.hid (O1.out.below_top h2)
  have B2 := Lib.hid (B1.out.trans (h2.mono B1.out.size)); clear h1 h2
  go_wp2_with fail
  refine (ror_any O1'.out.reads O2.out.reads ((notL_rt HA.out).short2 (notL_rt HB.out) rfl rfl)).mono ?_
  rintro e w3 ht
  have HT3 := Lib.hid (ht.more B2.out); clear ht
  obtain ⟨v3, rfl, h1, h2⟩ := HT3.out
  have O3 := Lib.hid h1; have B3 := Lib.hid h2; clear h1 h2
  go_wp2_with fail
  refine (rnot_any O3.out.reads (orL_rt _ _)).mono ?_
  rintro e w4 ht
  have HT4 := Lib.hid (ht.more B3.out); clear ht
  obtain ⟨v4, rfl, h1, h2⟩ := HT4.out
  have O4 := Lib.hid h1; have B4 := Lib.hid h2; clear h1 h2
  go_wp2_with fail
  go_ret
  exact ⟨_, rfl, O4.out, B4.out⟩

theorem rless_any {w : World} {v u : Value} {n m : Nat} {a b : List (Int × Int)} (h : ReadsP w v n a) (h' : ReadsP w u m b) (ha : Rt a) (hb : Rt b) :
    Calls Try.prog 28 #[v, u] w (Tells w (lessL a b)) := by
  have H := Lib.hid h; have H' := Lib.hid h'; have HA := Lib.hid ha; have HB := Lib.hid hb; clear h h' ha hb
  go_enter Try.func28, Try.ntmps28
  go_wp2_with fail
  refine (rnot_any H'.out HB.out).mono ?_
  rintro e w1 ⟨v1, rfl, h1, h2⟩
  have O1 := Lib.hid h1; have B1 := Lib.hid h2; clear h1 h2
  go_wp2_with fail
  refine (rand_any (H.out.below B1.out) O1.out.reads HA.out (notL_rt HB.out)).mono ?_
  rintro e w4 ht
  have HT4 := Lib.hid (ht.more B1.out); clear ht
  obtain ⟨v4, rfl, h1, h2⟩ := HT4.out
  have O4 := Lib.hid h1; have B4 := Lib.hid h2; clear h1 h2
  go_wp2_with fail
  go_ret
  exact ⟨_, rfl, O4.out, B4.out⟩

end Go.Proofs.Ytkbcepgnjoeneaa
