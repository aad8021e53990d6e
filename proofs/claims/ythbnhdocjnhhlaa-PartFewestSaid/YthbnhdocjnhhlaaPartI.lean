/- Contract of the document's own points. -/
import Derived.Test.YthbnhdocjnhhlaaPartE
import Derived.Test.YthbnhdocjnhhlaaConcatI
import Derived.StillTailTactics
import Derived.BigRegion
import Derived.Deep.RegionLaw
namespace Go.Proofs.Ythbnhdocjnhhlaa
open Go Go.RowKit
set_option linter.unusedVariables false

/-- S lists the numbers of E, rising. -/
def Pts (S E : List Int) : Prop := S.Pairwise (· < ·) ∧ ∀ x, x ∈ S ↔ x ∈ E
theorem drop_pred (S : List Int) (j : Nat) (h0 : 0 < j) (hj : j ≤ S.length) : S.drop (j - 1) = S.getD (j - 1) 0 :: S.drop j := by
  have hl : j - 1 < S.length := by omega
  have e : S.getD (j - 1) 0 = S[j - 1] := by simp [List.getD, List.getElem?_eq_getElem hl]
  rw [List.drop_eq_getElem_cons hl, e, show j - 1 + 1 = j by omega]
theorem drop_gtI {S : List Int} {j : Nat} {p : Int} (h0 : 0 < j) (hj : j ≤ S.length) (hp : p < S.getD (j - 1) 0) (h : ∀ r ∈ S.drop j, p < r) : ∀ r ∈ S.drop (j - 1), p < r := by
  rw [drop_pred S j h0 hj]
  intro r hr
  rcases List.mem_cons.1 hr with rfl | hr
  · exact hp
  · exact h r hr
theorem Pts.put {S E : List Int} {j : Nat} {p : Int} (h : Pts S E) (h0 : 0 < j) (hj : j ≤ S.length) (hp : S.getD (j - 1) 0 < p) (hd : ∀ r ∈ S.drop j, p < r) : Pts (S.take j ++ [p] ++ S.drop j) (E ++ [p]) := by
  obtain ⟨h1, h2⟩ := h
  have hS : S = S.take j ++ S.drop j := (List.take_append_drop j S).symm
  have hlt : ∀ r ∈ S.take j, r < p := by
    intro r hr
    obtain ⟨i, hi, rfl⟩ := List.getElem_of_mem hr
    have hi2 : i < j := by rw [List.length_take] at hi; omega
    have hl : j - 1 < S.length := by omega
    have e : S.getD (j - 1) 0 = S[j - 1] := by simp [List.getD, List.getElem?_eq_getElem hl]
    rw [e] at hp
    rw [List.getElem_take]
    rcases Nat.lt_or_ge i (j - 1) with g | g
    · have := List.pairwise_iff_getElem.1 h1 i (j - 1) (by omega) hl g; omega
    · have : i = j - 1 := by omega
      subst this; exact hp
  constructor
  · rw [List.append_assoc, List.singleton_append]
    rw [hS] at h1
    obtain ⟨a1, a2, a3⟩ := List.pairwise_append.1 h1
    refine List.pairwise_append.2 ⟨a1, List.pairwise_cons.2 ⟨hd, a2⟩, fun r hr x hx => ?_⟩
    rcases List.mem_cons.1 hx with rfl | hx
    · exact hlt r hr
    · exact a3 r hr x hx
  · intro x
    rw [List.mem_append (s := E), ← h2 x]
    conv => rhs; rw [hS]
    simp only [List.mem_append, List.mem_singleton]
    constructor
    · rintro ((g | g) | g)
      · exact .inl (.inl g)
      · exact .inr g
      · exact .inl (.inr g)
    · rintro ((g | g) | g)
      · exact .inl (.inl g)
      · exact .inr g
      · exact .inl (.inr g)
theorem Pts.same {S E : List Int} {p : Int} (h : Pts S E) (hp : p ∈ S) : Pts S (E ++ [p]) :=
  ⟨h.1, fun x => by
    rw [h.2 x, List.mem_append, List.mem_singleton]
    exact ⟨.inl, fun g => g.elim id fun e => by rw [e]; exact (h.2 p).1 hp⟩⟩

def valsQ (x y : Int) (q : Nat) : List Int := ([x, y + 1].take q).filter fun v => decide (v ≤ 1114111)
theorem valsQ_succ (x y : Int) (q : Nat) (hq : q < 2) : valsQ x y (q + 1) = valsQ x y q ++ (if [x, y + 1].getD q 0 ≤ 1114111 then [[x, y + 1].getD q 0] else []) := by
  unfold valsQ
  have hq' : q < [x, y + 1].length := by simpa using hq
  have e : [x, y + 1].getD q 0 = [x, y + 1][q] := by simp [List.getD, List.getElem?_eq_getElem hq']
  rw [List.take_succ_eq_append_getElem hq', List.filter_append, e]
  congr 1
  by_cases h : [x, y + 1][q] ≤ 1114111
  · rw [if_pos h, List.filter_cons_of_pos (by simpa using h), List.filter_nil]
  · rw [if_neg h, List.filter_cons_of_neg (by simpa using h), List.filter_nil]
theorem valsQ_two (x y : Int) (hx : x ≤ 1114111) : valsQ x y 2 = if y < 1114111 then [x, y + 1] else [x] := by
  unfold valsQ
  simp only [List.take_succ_cons, List.take_zero]
  rw [List.filter_cons_of_pos (by simpa using hx)]
  by_cases h : y < 1114111
  · rw [if_pos h, List.filter_cons_of_pos (by simp; omega), List.filter_nil]
  · rw [if_neg h, List.filter_cons_of_neg (by simp; omega), List.filter_nil]

set_option maxRecDepth 100000 in
set_option maxHeartbeats 8000000 in
theorem points_any {w : World} {v : Value} {k0 : Nat} {ss : List (List (Int × Int))} (h : ReadsL w v k0 ss) (hr : RtAll ss) (hk0 : k0 ≤ 13) :
    Calls Try.prog 29 #[v] w (TellsI w (cutsL ss)) := by
  obtain ⟨a, cap, rfl, hc, hm, hl⟩ := h.form
  have H := Lib.hid h; have HR := Lib.hid hr; have HL := Lib.hid hl; clear h hr hl
  go_enter Try.func29, Try.ntmps29
  go_wp2_with fail
  go_loopw [3, 4] (fun s i wr => ∃ (k m : Nat) (S : List Int), k ≤ k0 ∧ m ≤ 1 + k * 1114112 ∧ i = .int .i64 k ∧ Hid (Own wr w.heap.size s m S) ∧ Hid (Pts S (0 :: (ss.take k).flatMap edge1)) ∧ Hid (Below w.heap.size w wr)) (fun _ i _ => k0 - (intOf i).toNat)
  case atStart => exact ⟨0, 1, [0], Nat.zero_le _, Nat.le_refl _, rfl, Lib.hid ⟨rfl, .inr ⟨_, _, _, rfl, Nat.le_refl _, heap_alloc_new w _, Nat.le_refl _, by unfold maxLen; omega, rfl, rfl⟩⟩, Lib.hid ⟨by simp, fun x => by simp⟩, Lib.hid ((Below.refl _ _).alloc (Nat.le_refl _) _)⟩
  case round =>
    obtain ⟨k, m, S, hk, hm9, rfl, HV, HP, HB⟩ := hrel
    have hz := HB.out.size
    have i0 : (0 : Int) ≤ (k : Int) := Int.natCast_nonneg _
    by_cases hlt : k < k0
    · have i1 : (k : Int) < (k0 : Int) := by omega
      have t1 : decide (k < k0) = true := by simpa using hlt
      obtain ⟨b, off, u, rfl, c1, hu⟩ := H.out.at k hlt
      have hbl := World.block_lt_of_cell? w _ c1
      have HRk := Lib.hid (HR.out.at k (by rw [HL.out]; exact hlt))
      have SN := Lib.hid (edges_snoc ss k (by rw [HL.out]; exact hlt))
      have hsh := HRk.out.short
      generalize ss.getD k [] = l at *
      obtain ⟨a2, cap2, rfl, hc2, hm2, hl2⟩ := hu.form
      have HU := Lib.hid hu; clear hu hl2
      generalize hn2 : l.length = n2 at *
      have HN2 : Hid (n2 = l.length) := Lib.hid hn2.symm
      clear hn2
      go_wp2_with fail
      go_loopw [3, 5] (fun s i wr => ∃ (j m2 : Nat) (S : List Int), j ≤ n2 ∧ m2 ≤ m + 2 * j ∧ i = .int .i64 j ∧ Hid (Own wr w.heap.size s m2 S) ∧ Hid (Pts S (0 :: ((ss.take k).flatMap edge1 ++ edge1 (l.take j)))) ∧ Hid (Below w.heap.size w wr)) (fun _ i _ => n2 - (intOf i).toNat)
      case atStart => exact ⟨0, m, S, Nat.zero_le _, Nat.le_refl _, rfl, HV, Lib.hid (by have := HP.out; simpa [edge1] using this), HB⟩
      case round =>
        clear HV HP HB hz
        obtain ⟨j, m2, S, hj, hm29, rfl, HV, HP, HB⟩ := hrel
        have hz := HB.out.size
        have j0 : (0 : Int) ≤ (j : Int) := Int.natCast_nonneg _
        have d0 := (HB.out.cell (p := ⟨b, off + k, none⟩) hbl).trans c1
        by_cases hlt2 : j < n2
        · have j1 : (j : Int) < (n2 : Int) := by omega
          have t2 : decide (j < n2) = true := by simpa using hlt2
          obtain ⟨b3, off3, rfl, hbl3, d1, d2⟩ := HU.out.at j hlt2
          have d1 := (HB.out.cell (p := ⟨b3, off3 + j * 2, none⟩) hbl3).trans d1
          have d2 := (HB.out.cell (p := ⟨b3, off3 + j * 2 + 1, none⟩) hbl3).trans d2
          have hat := HRk.out.atD j (by rw [← HN2.out]; exact hlt2)
          have SE := Lib.hid (edge1_snoc l j (by rw [← HN2.out]; exact hlt2))
          generalize l.getD j (0, 0) = r at *
          obtain ⟨x, y⟩ := r
          simp only at d1 d2 hat
          obtain ⟨p1, p2, p3⟩ := hat
          have HV2 := Lib.hid ((HV.out.alloc (.cells #[.int .i64 x, .int .i64 (y + 1)] 3)).drew)
          have HB2 : Hid (Below w.heap.size w (wr.alloc (.cells #[.int .i64 x, .int .i64 (y + 1)] 3)).drew) := Lib.hid (by have := HB.out.alloc hz (.cells #[.int .i64 x, .int .i64 (y + 1)] 3); exact ⟨this.1, this.2, this.3, this.4, this.5⟩)
          have K1 : (wr.alloc (.cells #[.int .i64 x, .int .i64 (y + 1)] 3)).drew.cell? ⟨wr.heap.size, 0, none⟩ = some (.int .i64 x) := (new2 wr _ _ _).1
          have K2 : (wr.alloc (.cells #[.int .i64 x, .int .i64 (y + 1)] 3)).drew.cell? ⟨wr.heap.size, 1, none⟩ = some (.int .i64 (y + 1)) := (new2 wr _ _ _).2
          have SQ2 := Lib.hid (valsQ_two x y (by omega))
          have e1 : IntKind.i64.wrap (y + 1) = y + 1 := IntWalk.i64_in _ (by omega)
          go_wp2_with fail
          refine wp_region_still_tail 17 (by kernel_rfl) (by kernel_rfl) ?_
          simp only [List.take_succ_cons, List.take_zero, List.drop_succ_cons, List.drop_zero]
          repeat still_step
          refine wpStill_nil ?_
          change wpList _ _ _ _ _ wr.drew
          clear d0 d1 d2
          have hpz : wr.heap.size < (wr.alloc (.cells #[.int .i64 x, .int .i64 (y + 1)] 3)).drew.heap.size := by show _ < (wr.alloc _).heap.size; simp
          go_wp2_with fail
          clear HV HB e1
          generalize (wr.alloc (.cells #[.int .i64 x, .int .i64 (y + 1)] 3)).drew = W0 at *
          generalize hpb : wr.heap.size = pb at *
          clear hpb
          have KC : Hid (∀ q, q < 2 → W0.cell? ⟨pb, q, none⟩ = some (.int .i64 ([x, y + 1].getD q 0))) := Lib.hid (fun q hq => by
            rcases (show q = 0 ∨ q = 1 by omega) with rfl | rfl
            · exact K1
            · exact K2)
          clear K1 K2
          go_loopw [3, 7] (fun s i wr => ∃ (q n : Nat) (T : List Int), q ≤ 2 ∧ n ≤ m2 + q ∧ i = .int .i64 q ∧ Hid (Own wr w.heap.size s n T) ∧ Hid (Pts T (0 :: ((ss.take k).flatMap edge1 ++ edge1 (l.take j)) ++ valsQ x y q)) ∧ Hid (Below w.heap.size w wr) ∧ Hid (Below W0.heap.size W0 wr)) (fun _ i _ => 2 - (intOf i).toNat)
          case atStart => exact ⟨0, m2, S, Nat.zero_le _, Nat.le_refl _, rfl, HV2, Lib.hid (by have := HP.out; simpa [valsQ] using this), HB2, Lib.hid (Below.refl _ _)⟩
          case round =>
            clear HV2 HB2 HP hz
            obtain ⟨q, n, T, hq, hn9, rfl, HV, HP, HB, HW⟩ := hrel
            have hz := HB.out.size
            have hzW := HW.out.size
            have q0 : (0 : Int) ≤ (q : Int) := Int.natCast_nonneg _
            by_cases hq2 : q < 2
            · have q1 : (q : Int) < 2 := by omega
              have hv1 := (HW.out.cell (p := ⟨pb, q, none⟩) hpz).trans (KC.out q hq2)
              have HE := Lib.hid (valsQ_succ x y q hq2)
              have hval : 0 ≤ [x, y + 1].getD q 0 ∧ [x, y + 1].getD q 0 ≤ 1114112 := by
                rcases (show q = 0 ∨ q = 1 by omega) with rfl | rfl
                · show 0 ≤ x ∧ x ≤ 1114112; omega
                · show 0 ≤ y + 1 ∧ y + 1 ≤ 1114112; omega
              generalize [x, y + 1].getD q 0 = p at *
              obtain ⟨hp0, hp1⟩ := hval
              generalize hE : (0 :: ((ss.take k).flatMap edge1 ++ edge1 (l.take j)) ++ valsQ x y q) = E at *
              have HEE : Hid (0 :: ((ss.take k).flatMap edge1 ++ edge1 (l.take j)) ++ valsQ x y (q + 1) = E ++ (if p ≤ 1114111 then [p] else [])) := Lib.hid (by rw [HE.out, ← hE]; simp)
              have hE0 : (0 : Int) ∈ E := by rw [← hE]; simp
              have hT0 : (0 : Int) ∈ T := (HP.out.2 0).2 hE0
              have HT0 := Lib.hid hT0
              clear hE hE0 hT0 HE
              have hTl : T.length = n := HV.out.len
              have HTl := Lib.hid hTl; clear hTl
              rcases HV.out.form with ⟨_, hn0, hS0⟩ | ⟨g, cap3, rfl, hg1, hg2, hc3, hcell⟩
              · exact absurd HT0.out (by rw [hS0]; simp)
              have HC := Lib.hid hcell; clear hcell
              have hcm3 : cap3 ≤ 9223372036854775807 := by
                obtain ⟨_, _, e, _, h6, _⟩ := HV.out.readsI.form
                cases e; exact h6
              go_wp2_with fail
              obtain ⟨W, hW⟩ : ∃ W, W = wr := ⟨_, rfl⟩
              rw [← hW] at HV HB HW hz hzW hv1 hg2 HC ⊢
              clear hW
              go_loopw [8] (fun s6 w3 => ∃ (i d : Nat), i ≤ n ∧ s6 = .int .i64 i ∧ Hid (∀ r ∈ T.drop i, p < r) ∧ w3 = W.drewN d) (fun s6 _ => (intOf s6).toNat)
              case atStart => exact ⟨n, 0, Nat.le_refl _, rfl, Lib.hid (by rw [List.drop_of_length_le (by have := HTl.out; omega)]; intro r hr; cases hr), rfl⟩
              case round =>
                obtain ⟨i, d, hi, rfl, HDD, rfl⟩ := hrel
                have hi0 : 0 < i := by
                  apply Nat.pos_of_ne_zero
                  rintro rfl
                  have := HDD.out 0 (by simpa using HT0.out)
                  omega
                have c3 := HC.out (i - 1) (by omega)
                have e2 : (i : Int) - 1 < (n : Int) := by omega
                have e3 : 0 ≤ (i : Int) - 1 := by omega
                have e5 : (0 : Int) < (i : Int) := by omega
                have e4 : ((i : Int) - 1).toNat = i - 1 := by omega
                have e1 : IntKind.i64.wrap ((i : Int) - 1) = (i : Int) - 1 := IntWalk.i64_in _ (by omega)
                have HG := Lib.hid (fun hlt => drop_gtI (S := T) (p := p) hi0 (by have := HTl.out; omega) hlt HDD.out)
                have HPut := Lib.hid (fun hlt => HP.out.put (p := p) hi0 (by have := HTl.out; omega) hlt HDD.out)
                have HMem : Hid (T.getD (i - 1) 0 ∈ T) := Lib.hid (by
                  have hl : i - 1 < T.length := by have := HTl.out; omega
                  have e : T.getD (i - 1) 0 = T[i - 1] := by simp [List.getD, List.getElem?_eq_getElem hl]
                  rw [e]; exact List.getElem_mem _)
                generalize T.getD (i - 1) 0 = z at *
                rw [Nat.zero_add] at c3
                by_cases hlt2 : p < z
                · go_wp2_with fail
                  go_quiet (fail)
                  go_wp2_with fail
                  exact ⟨⟨i - 1, _, by omega, by congr 1; omega, Lib.hid (HG.out hlt2), rfl⟩, by simp [intOf]; omega⟩
                · have n0 : ¬ (i : Int) = 0 := by omega
                  have n1 : ((i : Int) == 0) = false := by simp; omega
                  clear HG HDD
                  by_cases hpl : p ≤ 1114111
                  · by_cases hzp : z = p
                    · have z1 : (z != p) = false := by simp [hzp]
                      have z2 : (z == p) = true := by simp [hzp]
                      have HZP := Lib.hid hzp; clear hzp
                      go_wp2_with fail
                      go_quiet (fail)
                      go_wp2_with fail
                      go_quiet (fail)
                      go_wp2_with fail
                      refine ⟨⟨q + 1, n, T, by omega, by omega, by go_num, Lib.hid HV.out, Lib.hid ?_, Lib.hid (Below.drewN' HB.out _), Lib.hid (Below.drewN' HW.out _)⟩, by simp [intOf]; omega⟩
                      rw [HEE.out, if_pos hpl]
                      exact HP.out.same (by rw [← HZP.out]; exact HMem.out)
                    · have z1 : (z != p) = true := by simpa using hzp
                      have z2 : (z == p) = false := by simpa using hzp
                      go_wp2_with fail
                      go_quiet (fail)
                      go_wp2_with fail
                      obtain ⟨nq1, hq1⟩ : ∃ x, x = nq := ⟨_, rfl⟩
                      subst hq1
                      go_quiet (fail)
                      go_wp2_with fail
                      have V3 : Hid (Own (W.drewN (d + nq1 + nq)) w.heap.size (.slice (some ⟨g, 0, none⟩) n cap3) n T) := Lib.hid HV.out
                      have B3 : Hid (Below w.heap.size w (W.drewN (d + nq1 + nq))) := Lib.hid (Below.drewN' HB.out _)
                      have BW3 : Hid (Below W0.heap.size W0 (W.drewN (d + nq1 + nq))) := Lib.hid (Below.drewN' HW.out _)
                      have K3 : (W.drewN (d + nq1 + nq)).cell? ⟨pb, q, none⟩ = some (.int .i64 p) := hv1
                      have hpz3 : pb < (W.drewN (d + nq1 + nq)).heap.size := by show pb < W.heap.size; omega
                      have hzW3 : W0.heap.size ≤ (W.drewN (d + nq1 + nq)).heap.size := hzW
                      have hz3 : w.heap.size ≤ (W.drewN (d + nq1 + nq)).heap.size := hz
                      clear hv1 c3 e1 e2 e3 e4 HV HB HW HC hz hzW hg2
                      try simp only [World.drewN_drewN]
                      generalize (W.drewN (d + nq1 + nq)) = W3 at *
                      have A1 := Lib.hid (Own.none_ W3).drew
                      have A2 := Lib.hid ((Own.none_ W3).alloc (.cells #[.int .i64 p] 3)).drew
                      have A3 : Hid (Own ((W3.alloc (.cells #[.int .i64 p] 3)).alloc (.cells #[] 3)).drew W3.heap.size (.slice (some ⟨W3.heap.size + 1, 0, none⟩) 0 0) 0 []) := Lib.hid (by
                        have := (Own.none_ (W3.alloc (.cells #[.int .i64 p] 3))).drew
                        rw [World.size_alloc] at this
                        exact this.more (by omega))
                      have X2 : Hid (((W3.alloc (.cells #[] 3)).alloc (.cells #[.int .i64 p] 3)).drew.cell? ⟨W3.heap.size + 1, 0, none⟩ = some (.int .i64 p)) := Lib.hid (by
                        have := new1 (W3.alloc (.cells #[] 3)) (.int .i64 p) 3
                        rw [World.size_alloc] at this
                        exact this)
                      have X3 : Hid (((W3.alloc (.cells #[.int .i64 p] 3)).alloc (.cells #[] 3)).drew.cell? ⟨W3.heap.size, 0, none⟩ = some (.int .i64 p)) := Lib.hid (keepA (new1 W3 _ _) _)
                      have RT := Lib.hid (V3.out.readsI.take hi)
                      have rd := V3.out.readsI.dropN hi
                      rw [Nat.zero_add] at rd
                      have RD := Lib.hid rd; clear rd
                      have f1 : (i : Int) ≤ (cap3 : Int) := by omega
                      have f2 : (i : Int) ≤ (n : Int) := by omega
                      have f3 : 0 ≤ (i : Int) := by omega
                      go_wp2_with fail
                      go_region_law (first
                        | (refine step_concatI (by rfl) (.tmp 86) (.tmp 89) (by rfl) W3.heap.size (.slice (some ⟨W3.heap.size, 0, none⟩) 0 0) 0 [] (by rfl) A1.out _ i (T.take i) (by rfl) (RT.out.alloc _) (by omega) (by show W3.heap.size ≤ (W3.alloc _).heap.size; simp) ?_
                           intro v4 w4 h1 h2 _ _
                           have HO4 := Lib.hid h1
                           have HB4 := Lib.hid ((((Below.refl W3.heap.size W3).alloc (Nat.le_refl _) _).drew).trans h2)
                           have k1' := (HB4.out.cell (p := ⟨pb, q, none⟩) hpz3).trans K3
                           have hz4 := HB4.out.size
                           clear h1 h2)
                        | (refine step_concatI (by rfl) (.tmp 86) (.tmp 89) (by rfl) W3.heap.size (.slice (some ⟨W3.heap.size, 0, none⟩) 0 0) 0 [] (by rfl) A2.out _ i (T.take i) (by rfl) ((RT.out.alloc _).alloc _) (by omega) (by show W3.heap.size ≤ ((W3.alloc _).alloc _).heap.size; simp; omega) ?_
                           intro v4 w4 h1 h2 h3 _
                           have HO4 := Lib.hid h1
                           have HB4 := Lib.hid (((((Below.refl W3.heap.size W3).alloc (Nat.le_refl _) _).alloc (by simp) _).drew).trans h2)
                           have HX4 := Lib.hid (readsI_new (h3.cell X2.out (by simp [Value.ownBlock])))
                           have hz4 := HB4.out.size
                           clear h1 h2 h3)
                        | (refine step_concatI (by rfl) (.tmp 86) (.tmp 89) (by rfl) W3.heap.size (.slice (some ⟨W3.heap.size + 1, 0, none⟩) 0 0) 0 [] (by rfl) A3.out _ i (T.take i) (by rfl) ((RT.out.alloc _).alloc _) (by omega) (by show W3.heap.size ≤ ((W3.alloc _).alloc _).heap.size; simp; omega) ?_
                           intro v4 w4 h1 h2 h3 _
                           have HO4 := Lib.hid h1
                           have HB4 := Lib.hid (((((Below.refl W3.heap.size W3).alloc (Nat.le_refl _) _).alloc (by simp) _).drew).trans h2)
                           have HX4 := Lib.hid (readsI_new (h3.cell X3.out (by simp [Value.ownBlock])))
                           have hz4 := HB4.out.size
                           clear h1 h2 h3)
                        | (refine step_concatI (by rfl) (.tmp 90) (.tmp 95) (by rfl) W3.heap.size v4 (0 + i) ([] ++ T.take i) (by rfl) HO4.out _ 1 [p] (by rfl) HX4.out (by omega) hz4 ?_
                           intro v5 w5 h1 h2 _ _
                           have HO5 := Lib.hid h1
                           have HB5 := Lib.hid (HB4.out.trans h2)
                           have hz5 := HB5.out.size
                           clear h1 h2)
                        | (refine step_concatI (by rfl) (.tmp 90) (.tmp 95) (by rfl) W3.heap.size v4 (0 + i) ([] ++ T.take i) (by rfl) (HO4.out.alloc _) _ 1 [p] (by rfl) (readsI_new (new1 w4 _ _)) (by omega) (by show W3.heap.size ≤ (w4.alloc _).heap.size; simp; omega) ?_
                           intro v5 w5 h1 h2 _ _
                           have HO5 := Lib.hid h1
                           have HB5 := Lib.hid ((HB4.out.alloc hz4 _).trans h2)
                           have hz5 := HB5.out.size
                           clear h1 h2)
                        | (refine step_concatI (by rfl) (.tmp 96) (.tmp 99) (by rfl) W3.heap.size v5 (0 + i + 1) ([] ++ T.take i ++ [p]) (by rfl) HO5.out _ (n - i) (T.drop i) (by rfl) (RD.out.below HB5.out) (by omega) hz5 ?_
                           intro v6 w6 h1 h2 _ _
                           have HO6 := Lib.hid h1
                           have HB6 := Lib.hid (HB5.out.trans h2)
                           clear h1 h2))
                      all_goals
                        go_wp2_with fail
                        refine ⟨⟨q + 1, n + 1, T.take i ++ [p] ++ T.drop i, by omega, by omega, by go_num, Lib.hid ((HO6.out.more hz3).cast (by omega) (by simp)), Lib.hid ?_, Lib.hid (B3.out.trans (HB6.out.mono hz3)), Lib.hid (BW3.out.trans (HB6.out.mono hzW3))⟩, by simp [intOf]; omega⟩
                        rw [HEE.out, if_pos hpl]
                        exact HPut.out (by omega)
                  · have hpl2 : decide (p ≤ 1114111) = false := by simpa using hpl
                    have hpl3 : 1114111 < p := by omega
                    go_wp2_with fail
                    go_quiet (fail)
                    go_wp2_with fail
                    go_quiet (fail)
                    go_wp2_with fail
                    refine ⟨⟨q + 1, n, T, by omega, by omega, by go_num, Lib.hid HV.out, Lib.hid ?_, Lib.hid (Below.drewN' HB.out _), Lib.hid (Below.drewN' HW.out _)⟩, by simp [intOf]; omega⟩
                    rw [HEE.out, if_neg (by omega), List.append_nil]
                    exact HP.out
            · have hq22 : q = 2 := by omega
              have HQ2 := Lib.hid hq22; clear hq22
              have HPE : Hid (Pts T (0 :: ((ss.take k).flatMap edge1 ++ edge1 (l.take (j + 1))))) := Lib.hid (by
                have := HP.out
                rw [HQ2.out, SQ2.out] at this
                rw [SE.out, ← List.append_assoc]
                simpa using this)
              go_wp2_with fail
              exact ⟨⟨j + 1, n, T, by omega, by omega, by go_num, HV, HPE, HB⟩, by simp [intOf]; omega⟩
        · have e : l.take j = l := List.take_of_length_le (by rw [← HN2.out]; omega)
          have HPE : Hid (Pts S (0 :: (ss.take (k + 1)).flatMap edge1)) := Lib.hid (by have := HP.out; rw [e] at this; rw [SN.out]; exact this)
          clear e
          go_wp2_with fail
          exact ⟨⟨k + 1, m2, S, by omega, by omega, by go_num, HV, HPE, HB⟩, by simp [intOf]; omega⟩
    · have e : ss.take k = ss := List.take_of_length_le (by rw [HL.out]; omega)
      have HE : Hid (S = cutsL ss) := Lib.hid (by have := HP.out; rw [e] at this; exact cutsL_eq this.1 this.2)
      have HLL : Hid (m = (cutsL ss).length) := Lib.hid (by rw [← HE.out]; exact HV.out.len.symm)
      clear e
      go_wp2_with fail
      go_ret
      exact ⟨_, rfl, HV.out.cast HLL.out HE.out, HB.out⟩

end Go.Proofs.Ythbnhdocjnhhlaa
