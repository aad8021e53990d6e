/- Contract of the document's own Norm. -/
import Derived.Test.YthbnhdocjnhhlaaSetI
namespace Go.Proofs.Ythbnhdocjnhhlaa
open Go Go.RowKit
set_option linter.unusedVariables false

theorem modify_last (l : List (Int × Int)) (r : Int × Int) (f : Int × Int → Int × Int) : (l ++ [r]).modify l.length f = l ++ [f r] := by
  induction l with
  | nil => rfl
  | cons x l ih => simp only [List.cons_append, List.length_cons, List.modify_succ_cons, ih]
theorem OwnP.set2 {w : World} {B g cap n : Nat} {l : List (Int × Int)} (h : OwnP w B (.slice (some ⟨g, 0, none⟩) n cap) n l) (i : Nat) (x : Int) :
    OwnP (w.setCell ⟨g, i * 2 + 1, none⟩ (.int .i64 x)) B (.slice (some ⟨g, 0, none⟩) n cap) n (l.modify i fun r => (r.1, x)) := by
  have := (World.ownsRow.stored h (i * 2 + 1) (.int .i64 x)).1
  rw [flatP_set2] at this
  exact this
theorem OwnP.set1 {w : World} {B g cap n : Nat} {l : List (Int × Int)} (h : OwnP w B (.slice (some ⟨g, 0, none⟩) n cap) n l) (i : Nat) (x : Int) :
    OwnP (w.setCell ⟨g, i * 2, none⟩ (.int .i64 x)) B (.slice (some ⟨g, 0, none⟩) n cap) n (l.modify i fun r => (x, r.2)) := by
  have := (World.ownsRow.stored h (i * 2) (.int .i64 x)).1
  rw [flatP_set1] at this
  exact this
theorem OwnP.thaw {w : World} {B g cap n : Nat} {l : List (Int × Int)} (h : OwnP w B (.slice (some ⟨g, 0, none⟩) n cap) n l) (j : Nat) : w.frozen? ⟨g, j, none⟩ = false := World.ownsRow.frozenAt h j

/-- What has been joined of a sorted row's front. -/
def Jnd (S R : List (Int × Int)) (k : Nat) : Prop := Rt R ∧ (∀ n, inS R n ↔ inS (S.take k) n) ∧ ∀ r ∈ R, ∀ x ∈ S.drop k, r.1 ≤ x.1
theorem Jnd.grow {S R : List (Int × Int)} {k : Nat} {a h c d : Int} (hS : ByLo S) (hk : k < S.length) (hx : S.getD k (0, 0) = (c, d)) (hf : 0 ≤ c ∧ c ≤ d ∧ d ≤ 1114111) (hj : Jnd S (R ++ [(a, h)]) k) (ht : c ≤ h + 1) : Jnd S (R ++ [(a, max h d)]) (k + 1) := by
  obtain ⟨h1, h2, h3⟩ := hj
  have hd := drop_at S k hk
  rw [hx] at hd
  have hac : a ≤ c := h3 (a, h) (by simp) (c, d) (by rw [hd]; exact List.mem_cons_self)
  obtain ⟨p, q⟩ := join_last h1 hac ht hf.2.1 hf.2.2
  have e : S.take (k + 1) = S.take k ++ [(c, d)] := by
    rw [List.take_succ_eq_append_getElem hk]
    have e : S.getD k (0, 0) = S[k] := by simp [List.getD, List.getElem?_eq_getElem hk]
    rw [← e, hx]
  refine ⟨p, fun n => by rw [q, h2, e, inS_append, inS_one], fun r hr x hx' => ?_⟩
  have hxx : x ∈ S.drop k := by rw [hd]; exact List.mem_cons_of_mem _ hx'
  rcases List.mem_append.1 hr with hr | hr
  · exact h3 r (by simp [hr]) x hxx
  · obtain rfl : r = (a, max h d) := by simpa using hr
    exact h3 (a, h) (by simp) x hxx
theorem Jnd.push {S R : List (Int × Int)} {k : Nat} {c d : Int} (hS : ByLo S) (hk : k < S.length) (hx : S.getD k (0, 0) = (c, d)) (hf : 0 ≤ c ∧ c ≤ d ∧ d ≤ 1114111) (hj : Jnd S R k) (ht : ∀ r ∈ R, r.2 + 2 ≤ c) : Jnd S (R ++ [(c, d)]) (k + 1) := by
  obtain ⟨h1, h2, h3⟩ := hj
  have hd := drop_at S k hk
  rw [hx] at hd
  obtain ⟨p, q⟩ := new_last h1 hf.1 ht hf.2.1 hf.2.2
  have e : S.take (k + 1) = S.take k ++ [(c, d)] := by
    rw [List.take_succ_eq_append_getElem hk]
    have e : S.getD k (0, 0) = S[k] := by simp [List.getD, List.getElem?_eq_getElem hk]
    rw [← e, hx]
  refine ⟨p, fun n => by rw [q, h2, e, inS_append, inS_one], fun r hr x hx' => ?_⟩
  have hxx : x ∈ S.drop k := by rw [hd]; exact List.mem_cons_of_mem _ hx'
  rcases List.mem_append.1 hr with hr | hr
  · exact h3 r hr x hxx
  · obtain rfl : r = (c, d) := by simpa using hr
    have hb : ByLo (S.drop k) := List.Pairwise.sublist (List.drop_sublist k S) hS
    rw [hd] at hb
    exact (List.pairwise_cons.1 hb).1 x hx'
theorem Jnd.done {S R l : List (Int × Int)} {k : Nat} (hj : Jnd S R k) (hk : S.length ≤ k) (hs : Srt S (clipL l)) : R = normL l := by
  refine canon hj.1 (normL_rt _) fun n => ?_
  rw [hj.2.1, List.take_of_length_le hk, hs.2.2, clipL_in, normL_in]

set_option maxRecDepth 100000 in
set_option maxHeartbeats 8000000 in
theorem rnorm_any {w : World} {v : Value} {n : Nat} {l : List (Int × Int)} (h : ReadsP w v n l) (hn : n ≤ 100000000) :
    Calls Try.prog 34 #[v] w (Tells w (normL l)) := by
  have HC := Lib.hid (sorted_any h hn)
  have hl := h.1
  clear h
  go_enter Try.func34, Try.ntmps34
  go_wp2_with fail
  refine HC.out.mono ?_
  rintro e w1 ⟨v1, ns, S, rfl, hm, ho, hs, hb⟩
  have hns : ns ≤ 100000000 := by omega
  have HLS := Lib.hid ho.len
  obtain ⟨a1, cap1, rfl, hc1, hcm1, _⟩ := ho.reads.form
  have HO := Lib.hid ho.reads; have HB := Lib.hid hb; have HS := Lib.hid hs; have hz1 := hb.size
  clear ho hb hs hm hl
  go_wp2_with fail
  go_loopw [3, 5] (fun s i wr => ∃ (k m : Nat) (R : List (Int × Int)), k ≤ ns ∧ m ≤ k ∧ i = .int .i64 k ∧ Hid (OwnP wr w1.heap.size s m R) ∧ Hid (Below w1.heap.size w1 wr) ∧ Hid (Jnd S R k)) (fun _ i _ => ns - (intOf i).toNat)
  case atStart => exact ⟨0, 0, [], Nat.zero_le _, Nat.le_refl _, rfl, Lib.hid (OwnP.nil _ _), Lib.hid (Below.refl _ _), Lib.hid ⟨trivial, fun n => Iff.rfl, fun r hr => by cases hr⟩⟩
  case round =>
    obtain ⟨k, m, R, hk, hmk, rfl, HV, HW, HJ⟩ := hrel
    have hz := HW.out.size
    by_cases hlt : k < ns
    · obtain ⟨b, off, rfl, hb0, c1, c2⟩ := HO.out.at k hlt
      have c1 := (HW.out.cell (p := ⟨b, off + k * 2, none⟩) hb0).trans c1
      have c2 := (HW.out.cell (p := ⟨b, off + k * 2 + 1, none⟩) hb0).trans c2
      have hfl := HS.out.1 (S.getD k (0, 0)) (by
        have e : S.getD k (0, 0) = S[k]'(by have := HLS.out; omega) := by simp [List.getD, List.getElem?_eq_getElem (show k < S.length by have := HLS.out; omega)]
        rw [e]; exact List.getElem_mem _)
      have HX : Hid (S.getD k (0, 0) = ((S.getD k (0, 0)).1, (S.getD k (0, 0)).2)) := Lib.hid rfl
      have i0 : (0 : Int) ≤ (k : Int) := Int.natCast_nonneg _
      have i1 : (k : Int) < (ns : Int) := by omega
      generalize (S.getD k (0, 0)).1 = c at *
      generalize (S.getD k (0, 0)).2 = d at *
      obtain ⟨f1, f2, f3⟩ := hfl
      rcases List.eq_nil_or_concat R with hR | ⟨R', r, hR⟩
      · obtain rfl : m = 0 := by have := HV.out.len; rw [hR] at this; simpa using this.symm
        have HP := Lib.hid (HJ.out.push HS.out.2.1 (by have := HLS.out; omega) HX.out ⟨f1, f2, f3⟩ (by rw [hR]; intro r hr; cases hr))
        clear hR
        obtain ⟨a3, cap3, rfl, hc3, hcm3, _⟩ := HV.out.reads.form
        go_wp2_with fail
        go_quiet (fail)
        go_wp2_with (at_builtin; refine wpList_pushP rfl (.tmp 49) (.tmp 54) rfl w1.heap.size _ _ _ _ _ _ (by rfl) (HV.out.drewN _) _ (by rfl) rfl (by omega) hz ?_
                     intro g1 c1 w2 hp1
                     have HP1 := Lib.hid hp1; clear hp1)
        exact ⟨⟨k + 1, 0 + 1, _, by omega, by omega, by go_num, Lib.hid HP1.out.own, Lib.hid (HP1.out.below (HW.out.drewN' _) (Nat.le_refl _) hz), HP⟩, by simp [intOf]; omega⟩
      · obtain ⟨a0, h0⟩ := r
        rw [List.concat_eq_append] at hR
        subst hR
        have hmR : m = R'.length + 1 := by have := HV.out.len; simpa using this.symm
        have HMR := Lib.hid hmR
        have hm0 : 0 < m := by omega
        rcases HV.out.form with ⟨_, hz0, _⟩ | ⟨g, cap3, rfl, hg1, hg2, hc3, hcm3, hcell⟩
        · omega
        obtain ⟨k1, k2⟩ := hcell (m - 1) (by omega)
        have eR : (R' ++ [(a0, h0)]).getD (m - 1) (0, 0) = (a0, h0) := by rw [hmR]; simp [List.getD]
        rw [eR] at k1 k2
        simp only [Nat.zero_add] at k1 k2
        have hrt := HJ.out.1.full (a0, h0) (by simp)
        simp only at hrt
        obtain ⟨r1, r2, r3⟩ := hrt
        have hcm3 : cap3 ≤ 9223372036854775807 := by unfold maxLen at hcm3; exact hcm3
        have e2 : (m : Int) - 1 < (m : Int) := by omega
        have e3 : 0 ≤ (m : Int) - 1 := by omega
        have e5 : (1 : Int) ≤ (m : Int) := by omega
        have e4 : ((m : Int) - 1).toNat = m - 1 := by omega
        have e6 : IntKind.i64.wrap (h0 + 1) = h0 + 1 := IntWalk.i64_in _ (by omega)
        have hth := HV.out.thaw ((m - 1) * 2 + 1)
        clear hcell eR hmR
        by_cases htc : c ≤ h0 + 1
        · have HG := Lib.hid (HJ.out.grow HS.out.2.1 (by have := HLS.out; omega) HX.out ⟨f1, f2, f3⟩ htc)
          go_wp2_with fail
          go_quiet (fail)
          go_wp2_with fail
          go_region
          go_wp2_with fail
          have e : (R' ++ [(a0, h0)]).modify (m - 1) (fun r => (r.1, max h0 d)) = R' ++ [(a0, max h0 d)] := by
            rw [show m - 1 = R'.length by have := HMR.out; omega]
            exact modify_last _ _ _
          have h9 := (OwnP.drewN HV.out (nq + 1)).set2 (m - 1) (max h0 d)
          rw [e] at h9
          exact ⟨⟨k + 1, m, R' ++ [(a0, max h0 d)], by omega, by omega, by go_num, Lib.hid h9, Lib.hid ((HW.out.drewN' _).setCell (p := ⟨g, (m - 1) * 2 + 1, none⟩) hg1 _), HG⟩, by simp [intOf]; omega⟩
        · have HP := Lib.hid (HJ.out.push HS.out.2.1 (by have := HLS.out; omega) HX.out ⟨f1, f2, f3⟩ (fun r hr => by
            have := (last_most HJ.out.1 r hr).2; omega))
          have htc' : h0 + 1 < c := by omega
          go_wp2_with fail
          go_quiet (fail)
          go_wp2_with (at_builtin; refine wpList_pushP rfl (.tmp 49) (.tmp 54) rfl w1.heap.size _ _ _ _ _ _ (by rfl) (HV.out.drewN _) _ (by rfl) rfl (by omega) hz ?_
                       intro g1 c1 w2 hp1
                       have HP1 := Lib.hid hp1; clear hp1)
          exact ⟨⟨k + 1, m + 1, _, by omega, by omega, by go_num, Lib.hid HP1.out.own, Lib.hid (HP1.out.below (HW.out.drewN' _) (Nat.le_refl _) hz), HP⟩, by simp [intOf]; omega⟩
    · go_wp2_with fail
      go_ret
      have hd := HJ.out.done (by have := HLS.out; omega) HS.out
      subst hd
      exact ⟨_, rfl, (HV.out.more hz1).cast HV.out.len.symm rfl, HB.out.trans (HW.out.mono hz1)⟩

end Go.Proofs.Ythbnhdocjnhhlaa
