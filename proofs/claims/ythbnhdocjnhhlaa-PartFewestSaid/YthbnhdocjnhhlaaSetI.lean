/- Contract of the document's own sorted: ranges that have numbers, clipped, put by their beginnings. -/
import Derived.Test.YthbnhdocjnhhlaaSetM
import Derived.BigRegion
import Derived.Deep.RegionLaw
namespace Go.Proofs.Ythbnhdocjnhhlaa
open Go Go.RowKit
set_option linter.unusedVariables false

theorem ReadsP.take {w : World} {a : Option Addr} {cap n k : Nat} {l : List (Int × Int)} (h : ReadsP w (.slice a n cap) n l) (hk : k ≤ n) : ReadsP w (.slice a k cap) k (l.take k) := by
  obtain ⟨h1, a', cap', h2, h5, h6, h3, h4⟩ := h
  simp only [Value.slice.injEq, true_and] at h2
  obtain ⟨rfl, rfl⟩ := h2
  refine ⟨by simp; omega, a, cap, rfl, by omega, h6, h3, fun i hi => ?_⟩
  obtain ⟨b, off, e, hc⟩ := h4 i (by omega)
  refine ⟨b, off, e, fun j hj => ?_⟩
  have := hc j (by omega)
  rw [show (l.take k).getD j (0, 0) = l.getD j (0, 0) by simp [List.getD, hj]]
  exact this
theorem ReadsP.dropN {w : World} {b off cap n k : Nat} {l : List (Int × Int)} (h : ReadsP w (.slice (some ⟨b, off, none⟩) n cap) n l) (hk : k ≤ n) :
    ReadsP w (.slice (if cap = k then some ⟨b, off, none⟩ else some ⟨b, off + k * 2, none⟩) (n - k) (cap - k)) (n - k) (l.drop k) := by
  obtain ⟨h1, a', cap', h2, h5, h6, h3, h4⟩ := h
  simp only [Value.slice.injEq, true_and] at h2
  obtain ⟨rfl, rfl⟩ := h2
  refine ⟨by simp; omega, _, cap - k, rfl, by omega, by omega, (fun e => by split at e <;> cases e), fun i hi => ?_⟩
  rw [if_neg (by omega)]
  obtain ⟨b', off', e, hcl⟩ := h4 0 (by omega)
  simp only [Option.some.injEq, Addr.mk.injEq] at e
  obtain ⟨rfl, rfl, _⟩ := e
  refine ⟨b, off + k * 2, rfl, fun j hj => ?_⟩
  have := hcl (k + j) (by omega)
  rw [show off + (k + j) * 2 = off + k * 2 + j * 2 by omega] at this
  rw [show (l.drop k).getD j (0, 0) = l.getD (k + j) (0, 0) by simp [List.getD]]
  exact this
/-- One range, just laid. -/
theorem reads_new {w : World} {b : Nat} {p q : Int} (h1 : w.cell? ⟨b, 0, none⟩ = some (.int .i64 p)) (h2 : w.cell? ⟨b, 1, none⟩ = some (.int .i64 q)) : ReadsP w (.slice (some ⟨b, 0, none⟩) 1 1) 1 [(p, q)] :=
  ⟨rfl, _, 1, rfl, Nat.le_refl _, by unfold maxLen; omega, (fun e => by cases e), fun i hi => ⟨b, 0, rfl, fun j hj => by
    obtain rfl : j = 0 := by omega
    exact ⟨h1, h2⟩⟩⟩
theorem OwnP.emptyAt {w : World} {B g : Nat} (h : w.heap[g]? = some (.cells #[] 44 (0, 0))) (hB : B ≤ g) : OwnP w B (.slice (some ⟨g, 0, none⟩) 0 0) 0 [] :=
  ⟨rfl, .inr ⟨g, 0, #[], rfl, hB, h, Nat.le_refl _, Nat.zero_le _, rfl, rfl⟩⟩

/-- What lies sorted: each has numbers, by their beginnings, of the numbers of these. -/
def Srt (S m : List (Int × Int)) : Prop := Full S ∧ ByLo S ∧ ∀ n, inS S n ↔ inS m n
def Sorts (w : World) (l : List (Int × Int)) (e : Ending) (w' : World) : Prop := ∃ (v : Value) (m : Nat) (S : List (Int × Int)), e = .returned v ∧ m ≤ l.length ∧ OwnP w' w.heap.size v m S ∧ Srt S (clipL l) ∧ Below w.heap.size w w'

theorem ByLo.drop_gt {S : List (Int × Int)} (h : ByLo S) (p : Int) (k : Nat) (hk : 0 < k) (hl : k ≤ S.length) (hp : p < (S.getD (k - 1) (0, 0)).1) (hd : ∀ r ∈ S.drop k, p < r.1) : ∀ r ∈ S.drop (k - 1), p < r.1 := by
  have e : S.getD (k - 1) (0, 0) = S[k - 1]'(by omega) := by simp [List.getD, List.getElem?_eq_getElem (show k - 1 < S.length by omega)]
  rw [List.drop_eq_getElem_cons (by omega), show k - 1 + 1 = k by omega]
  intro r hr
  rcases List.mem_cons.1 hr with rfl | hr
  · rw [← e]; exact hp
  · exact hd r hr
theorem ByLo.take_le {S : List (Int × Int)} (h : ByLo S) (p : Int) (k : Nat) (hl : k ≤ S.length) (hp : k = 0 ∨ (S.getD (k - 1) (0, 0)).1 ≤ p) : ∀ r ∈ S.take k, r.1 ≤ p := by
  intro r hr
  obtain ⟨i, hi, rfl⟩ := List.mem_iff_getElem.1 hr
  have hi' : i < k := by simp at hi; omega
  rcases hp with rfl | hp
  · omega
  · have e : S.getD (k - 1) (0, 0) = S[k - 1]'(by omega) := by simp [List.getD, List.getElem?_eq_getElem (show k - 1 < S.length by omega)]
    rw [e] at hp
    rw [List.getElem_take]
    rcases Nat.lt_or_eq_of_le (show i ≤ k - 1 by omega) with hlt | heq
    · have := List.pairwise_iff_getElem.1 h i (k - 1) (by omega) (by omega) hlt
      omega
    · subst heq; exact hp
theorem Srt.put {S m : List (Int × Int)} {p q : Int} (h : Srt S m) (k : Nat) (h0 : 0 ≤ p) (h1 : p ≤ q) (h2 : q ≤ 1114111) (ht : ∀ r ∈ S.take k, r.1 ≤ p) (hd : ∀ r ∈ S.drop k, p < r.1) : Srt (S.take k ++ [(p, q)] ++ S.drop k) (m ++ [(p, q)]) := by
  obtain ⟨a1, a2, a3⟩ := put_in (x := (p, q)) k h.2.1 h.1 ⟨h0, h1, h2⟩ ht (fun r hr => by have := hd r hr; simp only; omega)
  rw [List.append_assoc, List.singleton_append]
  exact ⟨a2, a1, fun n => by rw [a3, h.2.2, inS_append, inS_one]⟩

set_option maxRecDepth 100000 in
set_option maxHeartbeats 8000000 in
theorem sorted_any {w : World} {v : Value} {n : Nat} {l : List (Int × Int)} (h : ReadsP w v n l) (hn : n ≤ 100000000) :
    Calls Try.prog 39 #[v] w (Sorts w l) := by
  have h0 := h
  obtain ⟨a, cap, rfl, hc, hm, hl⟩ := h.form
  have H0 := Lib.hid h0; clear h h0
  have HL := Lib.hid hl; clear hl
  go_enter Try.func39, Try.ntmps39
  go_wp2_with fail
  go_loopw [3, 4] (fun s i wr => ∃ (k m : Nat) (S : List (Int × Int)), k ≤ n ∧ m ≤ k ∧ i = .int .i64 k ∧ Hid (OwnP wr w.heap.size s m S) ∧ Hid (Below w.heap.size w wr) ∧ Hid (Srt S (clipL (l.take k)))) (fun _ i _ => n - (intOf i).toNat)
  case atStart => exact ⟨0, 0, [], Nat.zero_le _, Nat.le_refl _, rfl, Lib.hid (OwnP.nil _ _), Lib.hid (Below.refl _ _), Lib.hid ⟨Full.nil, ByLo.nil, fun n => Iff.rfl⟩⟩
  case round =>
    obtain ⟨k, m, S, hk, hmk, rfl, HV, HB, HS⟩ := hrel
    have hz := HB.out.size
    by_cases hlt : k < n
    · obtain ⟨b, off, rfl, hb0, c1, c2⟩ := H0.out.at k hlt
      have c1 := (HB.out.cell (p := ⟨b, off + k * 2, none⟩) hb0).trans c1
      have c2 := (HB.out.cell (p := ⟨b, off + k * 2 + 1, none⟩) hb0).trans c2
      have SN := Lib.hid (clipL_snoc l k (by rw [HL.out]; exact hlt))
      have i0 : (0 : Int) ≤ (k : Int) := Int.natCast_nonneg _
      have i1 : (k : Int) < (n : Int) := by omega
      generalize (l.getD k (0, 0)).1 = x at *
      generalize (l.getD k (0, 0)).2 = y at *
      have hbz : b < wr.heap.size := by omega
      go_wp2_with fail
      go_region
      generalize he1 : max x 0 = p at *
      generalize he2 : min y 1114111 = q at *
      have hp0 : 0 ≤ p := by omega
      have hq0 : q ≤ 1114111 := by omega
      clear he1 he2
      obtain ⟨k1, k2⟩ := (show (wr.alloc (.cells #[.int .i64 p, .int .i64 q] 44)).drew.cell? ⟨wr.heap.size, 0, none⟩ = some (.int .i64 p) ∧ (wr.alloc (.cells #[.int .i64 p, .int .i64 q] 44)).drew.cell? ⟨wr.heap.size, 1, none⟩ = some (.int .i64 q) from new2 wr _ _ _)
      have V2 := Lib.hid ((HV.out.alloc (.cells #[.int .i64 p, .int .i64 q] 44)).drew)
      have W2 := Lib.hid ((HB.out.alloc hz (.cells #[.int .i64 p, .int .i64 q] 44)).drew)
      have hpz : wr.heap.size < (wr.alloc (.cells #[.int .i64 p, .int .i64 q] 44)).drew.heap.size := by show _ < (wr.alloc _).heap.size; simp
      clear c1 c2
      generalize (wr.alloc (.cells #[.int .i64 p, .int .i64 q] 44)).drew = W at *
      generalize wr.heap.size = pb at *
      by_cases hpq : p ≤ q
      · rw [if_pos hpq] at SN
        have hm2 : S.length = m := V2.out.len
        have HM := Lib.hid hm2; clear hm2
        rcases V2.out.form with ⟨rfl, hm0, hS0⟩ | ⟨g, cap3, rfl, hg1, hg2, hc3, hcm3, hcell⟩
        · subst hS0
          subst hm0
          have HDD : Hid (∀ r ∈ List.drop 0 ([] : List (Int × Int)), p < r.1) := Lib.hid (fun r hr => by cases hr)
          have HTT : Hid (∀ r ∈ List.take 0 ([] : List (Int × Int)), r.1 ≤ p) := Lib.hid (fun r hr => by cases hr)
          go_wp2_with fail
          go_loopw [6] (fun s6 w3 => ∃ d : Nat, s6 = .int .i64 0 ∧ w3 = W.drewN d) (fun s6 _ => (intOf s6).toNat)
          case atStart => exact ⟨0, rfl, rfl⟩
          case round =>
            obtain ⟨d, rfl, rfl⟩ := hrel
            go_wp2_with fail
            go_quiet (fail)
            go_wp2_with fail
            have K1 : ((W.drewN d).drewN nq).cell? ⟨pb, 0, none⟩ = some (.int .i64 p) := k1
            have K2 : ((W.drewN d).drewN nq).cell? ⟨pb, 1, none⟩ = some (.int .i64 q) := k2
            have V3 : Hid (OwnP ((W.drewN d).drewN nq) w.heap.size (.slice none 0 0) 0 []) := Lib.hid V2.out
            have W3b : Hid (Below w.heap.size w ((W.drewN d).drewN nq)) := Lib.hid (Below.drewN' (Below.drewN' W2.out _) _)
            have hpz : pb < ((W.drewN d).drewN nq).heap.size := hpz
            clear k1 k2 V2 W2
            generalize ((W.drewN d).drewN nq) = W3 at *
            have hzw := W3b.out.size
            have A1 := Lib.hid (OwnP.empty W3).drew
            have A2 := Lib.hid ((OwnP.empty W3).alloc (.cells #[.int .i64 p, .int .i64 q] 44)).drew
            have A3 : Hid (OwnP ((W3.alloc (.cells #[.int .i64 p, .int .i64 q] 44)).alloc (.cells #[] 44)).drew W3.heap.size (.slice (some ⟨W3.heap.size + 1, 0, none⟩) 0 0) 0 []) := Lib.hid (by
              have := (OwnP.empty (W3.alloc (.cells #[.int .i64 p, .int .i64 q] 44))).drew
              rw [World.size_alloc] at this
              exact this.more (by omega))
            have X2 : Hid (((W3.alloc (.cells #[] 44)).alloc (.cells #[.int .i64 p, .int .i64 q] 44)).drew.cell? ⟨W3.heap.size + 1, 0, none⟩ = some (.int .i64 p) ∧ ((W3.alloc (.cells #[] 44)).alloc (.cells #[.int .i64 p, .int .i64 q] 44)).drew.cell? ⟨W3.heap.size + 1, 1, none⟩ = some (.int .i64 q)) := Lib.hid (by
              have := new2 (W3.alloc (.cells #[] 44)) (.int .i64 p) (.int .i64 q) 44
              rw [World.size_alloc] at this
              exact this)
            have X3 : Hid (((W3.alloc (.cells #[.int .i64 p, .int .i64 q] 44)).alloc (.cells #[] 44)).drew.cell? ⟨W3.heap.size, 0, none⟩ = some (.int .i64 p) ∧ ((W3.alloc (.cells #[.int .i64 p, .int .i64 q] 44)).alloc (.cells #[] 44)).drew.cell? ⟨W3.heap.size, 1, none⟩ = some (.int .i64 q)) := Lib.hid ⟨keepA (new2 W3 _ _ _).1 _, keepA (new2 W3 _ _ _).2 _⟩
            go_wp2_with fail
            go_region_law (first
              | (refine step_concatP (by rfl) (.tmp 48) (.tmp 51) (by rfl) W3.heap.size (.slice (some ⟨W3.heap.size, 0, none⟩) 0 0) 0 [] (by rfl) A1.out _ 0 (([] : List (Int × Int)).take 0) (by rfl) ((ReadsP.nil W3).alloc _) (by omega) (by show W3.heap.size ≤ (W3.alloc _).heap.size; simp) ?_
                 intro v4 w4 h1 h2 _ _
                 have HO4 := Lib.hid h1
                 have HB4 := Lib.hid ((((Below.refl W3.heap.size W3).alloc (Nat.le_refl _) _).drew).trans h2)
                 have k1' := (HB4.out.cell (p := ⟨pb, 0, none⟩) hpz).trans K1
                 have k2' := (HB4.out.cell (p := ⟨pb, 1, none⟩) hpz).trans K2
                 have hz4 := HB4.out.size
                 clear h1 h2)
              | (refine step_concatP (by rfl) (.tmp 48) (.tmp 51) (by rfl) W3.heap.size (.slice (some ⟨W3.heap.size, 0, none⟩) 0 0) 0 [] (by rfl) A2.out _ 0 (([] : List (Int × Int)).take 0) (by rfl) (((ReadsP.nil W3).alloc _).alloc _) (by omega) (by show W3.heap.size ≤ ((W3.alloc _).alloc _).heap.size; simp; omega) ?_
                 intro v4 w4 h1 h2 h3 _
                 have HO4 := Lib.hid h1
                 have HB4 := Lib.hid (((((Below.refl W3.heap.size W3).alloc (Nat.le_refl _) _).alloc (by simp) _).drew).trans h2)
                 have HX4 := Lib.hid (reads_new (h3.cell X2.out.1 (by simp [Value.ownBlock])) (h3.cell X2.out.2 (by simp [Value.ownBlock])))
                 have hz4 := HB4.out.size
                 clear h1 h2 h3)
              | (refine step_concatP (by rfl) (.tmp 48) (.tmp 51) (by rfl) W3.heap.size (.slice (some ⟨W3.heap.size + 1, 0, none⟩) 0 0) 0 [] (by rfl) A3.out _ 0 (([] : List (Int × Int)).take 0) (by rfl) (((ReadsP.nil W3).alloc _).alloc _) (by omega) (by show W3.heap.size ≤ ((W3.alloc _).alloc _).heap.size; simp; omega) ?_
                 intro v4 w4 h1 h2 h3 _
                 have HO4 := Lib.hid h1
                 have HB4 := Lib.hid (((((Below.refl W3.heap.size W3).alloc (Nat.le_refl _) _).alloc (by simp) _).drew).trans h2)
                 have HX4 := Lib.hid (reads_new (h3.cell X3.out.1 (by simp [Value.ownBlock])) (h3.cell X3.out.2 (by simp [Value.ownBlock])))
                 have hz4 := HB4.out.size
                 clear h1 h2 h3)
              | (refine step_concatP (by rfl) (.tmp 52) (.tmp 54) (by rfl) W3.heap.size v4 (0 + 0) ([] ++ ([] : List (Int × Int)).take 0) (by rfl) HO4.out _ 1 [(p, q)] (by rfl) HX4.out (by omega) hz4 ?_
                 intro v5 w5 h1 h2 _ _
                 have HO5 := Lib.hid h1
                 have HB5 := Lib.hid (HB4.out.trans h2)
                 have hz5 := HB5.out.size
                 clear h1 h2)
              | (refine step_concatP (by rfl) (.tmp 52) (.tmp 54) (by rfl) W3.heap.size v4 (0 + 0) ([] ++ ([] : List (Int × Int)).take 0) (by rfl) (HO4.out.alloc _) _ 1 [(p, q)] (by rfl) (reads_new (new2 w4 _ _ _).1 (new2 w4 _ _ _).2) (by omega) (by show W3.heap.size ≤ (w4.alloc _).heap.size; simp; omega) ?_
                 intro v5 w5 h1 h2 _ _
                 have HO5 := Lib.hid h1
                 have HB5 := Lib.hid ((HB4.out.alloc hz4 _).trans h2)
                 have hz5 := HB5.out.size
                 clear h1 h2)
              | (refine step_concatP (by rfl) (.tmp 55) (.tmp 58) (by rfl) W3.heap.size v5 (0 + 0 + 1) ([] ++ ([] : List (Int × Int)).take 0 ++ [(p, q)]) (by rfl) HO5.out _ (0 - 0) (([] : List (Int × Int)).drop 0) (by rfl) ((ReadsP.nil W3).below HB5.out) (by omega) hz5 ?_
                 intro v6 w6 h1 h2 _ _
                 have HO6 := Lib.hid h1
                 have HB6 := Lib.hid (HB5.out.trans h2)
                 clear h1 h2))
            all_goals
              go_wp2_with fail
              refine ⟨⟨k + 1, 0 + 1, ([] : List (Int × Int)).take 0 ++ [(p, q)] ++ ([] : List (Int × Int)).drop 0, by omega, by omega, by go_num, Lib.hid ((HO6.out.more hzw).cast (by omega) (by simp)), Lib.hid (W3b.out.trans (HB6.out.mono hzw)), Lib.hid ?_⟩, by simp [intOf]; omega⟩
              rw [SN.out]
              exact HS.out.put 0 hp0 hpq hq0 HTT.out HDD.out
        · have HC := Lib.hid hcell; clear hcell
          have hcm3 : cap3 ≤ 9223372036854775807 := by unfold maxLen at hcm3; exact hcm3
          go_wp2_with fail
          go_loopw [6] (fun s6 w3 => ∃ (j d : Nat), j ≤ m ∧ s6 = .int .i64 j ∧ Hid (∀ r ∈ S.drop j, p < r.1) ∧ w3 = W.drewN d) (fun s6 _ => (intOf s6).toNat)
          case atStart => exact ⟨m, 0, Nat.le_refl _, rfl, Lib.hid (by rw [List.drop_of_length_le (by have := HM.out; omega)]; intro r hr; cases hr), rfl⟩
          case round =>
            obtain ⟨j, d, hj, rfl, HDD, rfl⟩ := hrel
            have HE := Lib.hid (fun hp => HS.out.2.1.take_le p j (by have := HM.out; omega) hp : (j = 0 ∨ (S.getD (j - 1) (0, 0)).1 ≤ p) → ∀ r ∈ S.take j, r.1 ≤ p)
            by_cases hj0 : 0 < j
            · obtain ⟨c1, _⟩ := HC.out (j - 1) (by omega)
              have HG := Lib.hid (HS.out.2.1.drop_gt p j hj0 (by have := HM.out; omega))
              have e2 : (j : Int) - 1 < (m : Int) := by omega
              have e3 : 0 ≤ (j : Int) - 1 := by omega
              have e5 : (0 : Int) < (j : Int) := by omega
              have e4 : ((j : Int) - 1).toNat = j - 1 := by omega
              have e1 : IntKind.i64.wrap ((j : Int) - 1) = (j : Int) - 1 := IntWalk.i64_in _ (by omega)
              generalize hz1 : (S.getD (j - 1) (0, 0)).1 = z at *
              have HZ := Lib.hid hz1; clear hz1
              rw [Nat.zero_add] at c1
              by_cases hlt2 : p < z
              · go_wp2_with fail
                go_quiet (fail)
                go_wp2_with fail
                exact ⟨⟨j - 1, _, by omega, by congr 1; omega, Lib.hid (HG.out hlt2 HDD.out), rfl⟩, by simp [intOf]; omega⟩
              · have HTT := Lib.hid (HE.out (.inr (by omega)))
                clear HE HG
                go_wp2_with fail
                go_quiet (fail)
                go_wp2_with fail
                clear e1 e2 e3 e4 c1
                have K1 : ((W.drewN d).drewN nq).cell? ⟨pb, 0, none⟩ = some (.int .i64 p) := k1
                have K2 : ((W.drewN d).drewN nq).cell? ⟨pb, 1, none⟩ = some (.int .i64 q) := k2
                have V3 : Hid (OwnP ((W.drewN d).drewN nq) w.heap.size (.slice (some ⟨g, 0, none⟩) m cap3) m S) := Lib.hid V2.out
                have W3b : Hid (Below w.heap.size w ((W.drewN d).drewN nq)) := Lib.hid (Below.drewN' (Below.drewN' W2.out _) _)
                have hpz : pb < ((W.drewN d).drewN nq).heap.size := hpz
                clear k1 k2 V2 W2
                generalize ((W.drewN d).drewN nq) = W3 at *
                have hzw := W3b.out.size
                have A1 := Lib.hid (OwnP.empty W3).drew
                have A2 := Lib.hid ((OwnP.empty W3).alloc (.cells #[.int .i64 p, .int .i64 q] 44)).drew
                have A3 : Hid (OwnP ((W3.alloc (.cells #[.int .i64 p, .int .i64 q] 44)).alloc (.cells #[] 44)).drew W3.heap.size (.slice (some ⟨W3.heap.size + 1, 0, none⟩) 0 0) 0 []) := Lib.hid (by
                  have := (OwnP.empty (W3.alloc (.cells #[.int .i64 p, .int .i64 q] 44))).drew
                  rw [World.size_alloc] at this
                  exact this.more (by omega))
                have X2 : Hid (((W3.alloc (.cells #[] 44)).alloc (.cells #[.int .i64 p, .int .i64 q] 44)).drew.cell? ⟨W3.heap.size + 1, 0, none⟩ = some (.int .i64 p) ∧ ((W3.alloc (.cells #[] 44)).alloc (.cells #[.int .i64 p, .int .i64 q] 44)).drew.cell? ⟨W3.heap.size + 1, 1, none⟩ = some (.int .i64 q)) := Lib.hid (by
                  have := new2 (W3.alloc (.cells #[] 44)) (.int .i64 p) (.int .i64 q) 44
                  rw [World.size_alloc] at this
                  exact this)
                have X3 : Hid (((W3.alloc (.cells #[.int .i64 p, .int .i64 q] 44)).alloc (.cells #[] 44)).drew.cell? ⟨W3.heap.size, 0, none⟩ = some (.int .i64 p) ∧ ((W3.alloc (.cells #[.int .i64 p, .int .i64 q] 44)).alloc (.cells #[] 44)).drew.cell? ⟨W3.heap.size, 1, none⟩ = some (.int .i64 q)) := Lib.hid ⟨keepA (new2 W3 _ _ _).1 _, keepA (new2 W3 _ _ _).2 _⟩
                have RT := Lib.hid (V3.out.reads.take hj)
                have rd := V3.out.reads.dropN hj
                rw [Nat.zero_add] at rd
                have RD := Lib.hid rd; clear rd
                have f1 : (j : Int) ≤ (cap3 : Int) := by omega
                have f2 : (j : Int) ≤ (m : Int) := by omega
                have f3 : 0 ≤ (j : Int) := by omega
                go_wp2_with fail
                go_region_law (first
                  | (refine step_concatP (by rfl) (.tmp 48) (.tmp 51) (by rfl) W3.heap.size (.slice (some ⟨W3.heap.size, 0, none⟩) 0 0) 0 [] (by rfl) A1.out _ j (S.take j) (by rfl) (RT.out.alloc _) (by omega) (by show W3.heap.size ≤ (W3.alloc _).heap.size; simp) ?_
                     intro v4 w4 h1 h2 _ _
                     have HO4 := Lib.hid h1
                     have HB4 := Lib.hid ((((Below.refl W3.heap.size W3).alloc (Nat.le_refl _) _).drew).trans h2)
                     have k1' := (HB4.out.cell (p := ⟨pb, 0, none⟩) hpz).trans K1
                     have k2' := (HB4.out.cell (p := ⟨pb, 1, none⟩) hpz).trans K2
                     have hz4 := HB4.out.size
                     clear h1 h2)
                  | (refine step_concatP (by rfl) (.tmp 48) (.tmp 51) (by rfl) W3.heap.size (.slice (some ⟨W3.heap.size, 0, none⟩) 0 0) 0 [] (by rfl) A2.out _ j (S.take j) (by rfl) ((RT.out.alloc _).alloc _) (by omega) (by show W3.heap.size ≤ ((W3.alloc _).alloc _).heap.size; simp; omega) ?_
                     intro v4 w4 h1 h2 h3 _
                     have HO4 := Lib.hid h1
                     have HB4 := Lib.hid (((((Below.refl W3.heap.size W3).alloc (Nat.le_refl _) _).alloc (by simp) _).drew).trans h2)
                     have HX4 := Lib.hid (reads_new (h3.cell X2.out.1 (by simp [Value.ownBlock])) (h3.cell X2.out.2 (by simp [Value.ownBlock])))
                     have hz4 := HB4.out.size
                     clear h1 h2 h3)
                  | (refine step_concatP (by rfl) (.tmp 48) (.tmp 51) (by rfl) W3.heap.size (.slice (some ⟨W3.heap.size + 1, 0, none⟩) 0 0) 0 [] (by rfl) A3.out _ j (S.take j) (by rfl) ((RT.out.alloc _).alloc _) (by omega) (by show W3.heap.size ≤ ((W3.alloc _).alloc _).heap.size; simp; omega) ?_
                     intro v4 w4 h1 h2 h3 _
                     have HO4 := Lib.hid h1
                     have HB4 := Lib.hid (((((Below.refl W3.heap.size W3).alloc (Nat.le_refl _) _).alloc (by simp) _).drew).trans h2)
                     have HX4 := Lib.hid (reads_new (h3.cell X3.out.1 (by simp [Value.ownBlock])) (h3.cell X3.out.2 (by simp [Value.ownBlock])))
                     have hz4 := HB4.out.size
                     clear h1 h2 h3)
                  | (refine step_concatP (by rfl) (.tmp 52) (.tmp 54) (by rfl) W3.heap.size v4 (0 + j) ([] ++ S.take j) (by rfl) HO4.out _ 1 [(p, q)] (by rfl) HX4.out (by omega) hz4 ?_
                     intro v5 w5 h1 h2 _ _
                     have HO5 := Lib.hid h1
                     have HB5 := Lib.hid (HB4.out.trans h2)
                     have hz5 := HB5.out.size
                     clear h1 h2)
                  | (refine step_concatP (by rfl) (.tmp 52) (.tmp 54) (by rfl) W3.heap.size v4 (0 + j) ([] ++ S.take j) (by rfl) (HO4.out.alloc _) _ 1 [(p, q)] (by rfl) (reads_new (new2 w4 _ _ _).1 (new2 w4 _ _ _).2) (by omega) (by show W3.heap.size ≤ (w4.alloc _).heap.size; simp; omega) ?_
                     intro v5 w5 h1 h2 _ _
                     have HO5 := Lib.hid h1
                     have HB5 := Lib.hid ((HB4.out.alloc hz4 _).trans h2)
                     have hz5 := HB5.out.size
                     clear h1 h2)
                  | (refine step_concatP (by rfl) (.tmp 55) (.tmp 58) (by rfl) W3.heap.size v5 (0 + j + 1) ([] ++ S.take j ++ [(p, q)]) (by rfl) HO5.out _ (m - j) (S.drop j) (by rfl) (RD.out.below HB5.out) (by omega) hz5 ?_
                     intro v6 w6 h1 h2 _ _
                     have HO6 := Lib.hid h1
                     have HB6 := Lib.hid (HB5.out.trans h2)
                     clear h1 h2))
                all_goals
                  go_wp2_with fail
                  refine ⟨⟨k + 1, m + 1, S.take j ++ [(p, q)] ++ S.drop j, by omega, by omega, by go_num, Lib.hid ((HO6.out.more hzw).cast (by omega) (by simp)), Lib.hid (W3b.out.trans (HB6.out.mono hzw)), Lib.hid ?_⟩, by simp [intOf]; omega⟩
                  rw [SN.out]
                  exact HS.out.put j hp0 hpq hq0 HTT.out HDD.out
            · have HTT := Lib.hid (HE.out (.inl (by omega)))
              have t5 : decide (0 < j) = false := by simpa using hj0
              have e5 : ¬ (0 : Int) < (j : Int) := by omega
              clear HE
              go_wp2_with fail
              go_quiet (fail)
              go_wp2_with fail
              have K1 : ((W.drewN d).drewN nq).cell? ⟨pb, 0, none⟩ = some (.int .i64 p) := k1
              have K2 : ((W.drewN d).drewN nq).cell? ⟨pb, 1, none⟩ = some (.int .i64 q) := k2
              have V3 : Hid (OwnP ((W.drewN d).drewN nq) w.heap.size (.slice (some ⟨g, 0, none⟩) m cap3) m S) := Lib.hid V2.out
              have W3b : Hid (Below w.heap.size w ((W.drewN d).drewN nq)) := Lib.hid (Below.drewN' (Below.drewN' W2.out _) _)
              have hpz : pb < ((W.drewN d).drewN nq).heap.size := hpz
              clear k1 k2 V2 W2
              generalize ((W.drewN d).drewN nq) = W3 at *
              have hzw := W3b.out.size
              have A1 := Lib.hid (OwnP.empty W3).drew
              have A2 := Lib.hid ((OwnP.empty W3).alloc (.cells #[.int .i64 p, .int .i64 q] 44)).drew
              have A3 : Hid (OwnP ((W3.alloc (.cells #[.int .i64 p, .int .i64 q] 44)).alloc (.cells #[] 44)).drew W3.heap.size (.slice (some ⟨W3.heap.size + 1, 0, none⟩) 0 0) 0 []) := Lib.hid (by
                have := (OwnP.empty (W3.alloc (.cells #[.int .i64 p, .int .i64 q] 44))).drew
                rw [World.size_alloc] at this
                exact this.more (by omega))
              have X2 : Hid (((W3.alloc (.cells #[] 44)).alloc (.cells #[.int .i64 p, .int .i64 q] 44)).drew.cell? ⟨W3.heap.size + 1, 0, none⟩ = some (.int .i64 p) ∧ ((W3.alloc (.cells #[] 44)).alloc (.cells #[.int .i64 p, .int .i64 q] 44)).drew.cell? ⟨W3.heap.size + 1, 1, none⟩ = some (.int .i64 q)) := Lib.hid (by
                have := new2 (W3.alloc (.cells #[] 44)) (.int .i64 p) (.int .i64 q) 44
                rw [World.size_alloc] at this
                exact this)
              have X3 : Hid (((W3.alloc (.cells #[.int .i64 p, .int .i64 q] 44)).alloc (.cells #[] 44)).drew.cell? ⟨W3.heap.size, 0, none⟩ = some (.int .i64 p) ∧ ((W3.alloc (.cells #[.int .i64 p, .int .i64 q] 44)).alloc (.cells #[] 44)).drew.cell? ⟨W3.heap.size, 1, none⟩ = some (.int .i64 q)) := Lib.hid ⟨keepA (new2 W3 _ _ _).1 _, keepA (new2 W3 _ _ _).2 _⟩
              have RT := Lib.hid (V3.out.reads.take hj)
              have rd := V3.out.reads.dropN hj
              rw [Nat.zero_add] at rd
              have RD := Lib.hid rd; clear rd
              have f1 : (j : Int) ≤ (cap3 : Int) := by omega
              have f2 : (j : Int) ≤ (m : Int) := by omega
              have f3 : 0 ≤ (j : Int) := by omega
              go_wp2_with fail
              go_region_law (first
                | (refine step_concatP (by rfl) (.tmp 48) (.tmp 51) (by rfl) W3.heap.size (.slice (some ⟨W3.heap.size, 0, none⟩) 0 0) 0 [] (by rfl) A1.out _ j (S.take j) (by rfl) (RT.out.alloc _) (by omega) (by show W3.heap.size ≤ (W3.alloc _).heap.size; simp) ?_
                   intro v4 w4 h1 h2 _ _
                   have HO4 := Lib.hid h1
                   have HB4 := Lib.hid ((((Below.refl W3.heap.size W3).alloc (Nat.le_refl _) _).drew).trans h2)
                   have k1' := (HB4.out.cell (p := ⟨pb, 0, none⟩) hpz).trans K1
                   have k2' := (HB4.out.cell (p := ⟨pb, 1, none⟩) hpz).trans K2
                   have hz4 := HB4.out.size
                   clear h1 h2)
                | (refine step_concatP (by rfl) (.tmp 48) (.tmp 51) (by rfl) W3.heap.size (.slice (some ⟨W3.heap.size, 0, none⟩) 0 0) 0 [] (by rfl) A2.out _ j (S.take j) (by rfl) ((RT.out.alloc _).alloc _) (by omega) (by show W3.heap.size ≤ ((W3.alloc _).alloc _).heap.size; simp; omega) ?_
                   intro v4 w4 h1 h2 h3 _
                   have HO4 := Lib.hid h1
                   have HB4 := Lib.hid (((((Below.refl W3.heap.size W3).alloc (Nat.le_refl _) _).alloc (by simp) _).drew).trans h2)
                   have HX4 := Lib.hid (reads_new (h3.cell X2.out.1 (by simp [Value.ownBlock])) (h3.cell X2.out.2 (by simp [Value.ownBlock])))
                   have hz4 := HB4.out.size
                   clear h1 h2 h3)
                | (refine step_concatP (by rfl) (.tmp 48) (.tmp 51) (by rfl) W3.heap.size (.slice (some ⟨W3.heap.size + 1, 0, none⟩) 0 0) 0 [] (by rfl) A3.out _ j (S.take j) (by rfl) ((RT.out.alloc _).alloc _) (by omega) (by show W3.heap.size ≤ ((W3.alloc _).alloc _).heap.size; simp; omega) ?_
                   intro v4 w4 h1 h2 h3 _
                   have HO4 := Lib.hid h1
                   have HB4 := Lib.hid (((((Below.refl W3.heap.size W3).alloc (Nat.le_refl _) _).alloc (by simp) _).drew).trans h2)
                   have HX4 := Lib.hid (reads_new (h3.cell X3.out.1 (by simp [Value.ownBlock])) (h3.cell X3.out.2 (by simp [Value.ownBlock])))
                   have hz4 := HB4.out.size
                   clear h1 h2 h3)
                | (refine step_concatP (by rfl) (.tmp 52) (.tmp 54) (by rfl) W3.heap.size v4 (0 + j) ([] ++ S.take j) (by rfl) HO4.out _ 1 [(p, q)] (by rfl) HX4.out (by omega) hz4 ?_
                   intro v5 w5 h1 h2 _ _
                   have HO5 := Lib.hid h1
                   have HB5 := Lib.hid (HB4.out.trans h2)
                   have hz5 := HB5.out.size
                   clear h1 h2)
                | (refine step_concatP (by rfl) (.tmp 52) (.tmp 54) (by rfl) W3.heap.size v4 (0 + j) ([] ++ S.take j) (by rfl) (HO4.out.alloc _) _ 1 [(p, q)] (by rfl) (reads_new (new2 w4 _ _ _).1 (new2 w4 _ _ _).2) (by omega) (by show W3.heap.size ≤ (w4.alloc _).heap.size; simp; omega) ?_
                   intro v5 w5 h1 h2 _ _
                   have HO5 := Lib.hid h1
                   have HB5 := Lib.hid ((HB4.out.alloc hz4 _).trans h2)
                   have hz5 := HB5.out.size
                   clear h1 h2)
                | (refine step_concatP (by rfl) (.tmp 55) (.tmp 58) (by rfl) W3.heap.size v5 (0 + j + 1) ([] ++ S.take j ++ [(p, q)]) (by rfl) HO5.out _ (m - j) (S.drop j) (by rfl) (RD.out.below HB5.out) (by omega) hz5 ?_
                   intro v6 w6 h1 h2 _ _
                   have HO6 := Lib.hid h1
                   have HB6 := Lib.hid (HB5.out.trans h2)
                   clear h1 h2))
              all_goals
                go_wp2_with fail
                refine ⟨⟨k + 1, m + 1, S.take j ++ [(p, q)] ++ S.drop j, by omega, by omega, by go_num, Lib.hid ((HO6.out.more hzw).cast (by omega) (by simp)), Lib.hid (W3b.out.trans (HB6.out.mono hzw)), Lib.hid ?_⟩, by simp [intOf]; omega⟩
                rw [SN.out]
                exact HS.out.put j hp0 hpq hq0 HTT.out HDD.out
      · rw [if_neg hpq, List.append_nil] at SN
        go_wp2_with fail
        exact ⟨⟨k + 1, m, S, by omega, by omega, by go_num, V2, W2, Lib.hid (by rw [SN.out]; exact HS.out)⟩, by simp [intOf]; omega⟩
    · go_wp2_with fail
      go_ret
      have e : l.take k = l := List.take_of_length_le (by have := HL.out; omega)
      refine ⟨_, m, S, rfl, by have := HL.out; omega, HV.out, ?_, HB.out⟩
      have := HS.out; rw [e] at this; exact this

end Go.Proofs.Ythbnhdocjnhhlaa
