/- Contract of the document's own sorted: ranges that have numbers, clipped, put by their beginnings. Contract of the document's own Norm. Contracts of the document's own Or, Not, And, Less. Contracts of the document's own Same, at two slices that read alike, and Right. -/
import Derived.Test.YtalgnnidhnhciaaGreatDoorSetM
import Derived.BigRegion
import Derived.Deep.RegionLaw
import Derived.Test.YtalgnnidhnhciaaGreatDoorSetA
set_option linter.unusedVariables false
set_option linter.unusedSimpArgs false
namespace Go.Proofs.YtalgnnidhnhciaaGreatDoor
open Go Go.RowKit
set_option linter.unusedVariables false

theorem ReadsP.take {w : World} {a : Option Addr} {cap n k : Nat} {l : List (Int × Int)} (h : ReadsP w (.slice a n cap) n l) (hk : k ≤ n) : ReadsP w (.slice a k cap) k (l.take k) := by
  obtain ⟨h1, a', cap', h2, h5, h6, h3, h4⟩ := h
  simp only [Value.slice.injEq, true_and] at h2
  obtain ⟨rfl, rfl⟩ := h2
  refine ⟨by simp; omega, a, cap, rfl, by omega, h6, h3, fun i hi => ?_⟩
  obtain ⟨b, off, e, hc⟩ := h4 i (by omega)
  refine ⟨b, off, e, fun j hj => ?_⟩
  have := hc j (by omega)
  rw [show (l.take k).getD j (0, 0) = l.getD j (0, 0) by simp [List.getD, hj]]
  exact this
theorem ReadsP.dropN {w : World} {b off cap n k : Nat} {l : List (Int × Int)} (h : ReadsP w (.slice (some ⟨b, off, none⟩) n cap) n l) (hk : k ≤ n) :
    ReadsP w (.slice (if cap = k then some ⟨b, off, none⟩ else some ⟨b, off + k * 2, none⟩) (n - k) (cap - k)) (n - k) (l.drop k) := by
  obtain ⟨h1, a', cap', h2, h5, h6, h3, h4⟩ := h
  simp only [Value.slice.injEq, true_and] at h2
  obtain ⟨rfl, rfl⟩ := h2
  refine ⟨by simp; omega, _, cap - k, rfl, by omega, by omega, (fun e => by split at e <;> cases e), fun i hi => ?_⟩
  rw [if_neg (by omega)]
  obtain ⟨b', off', e, hcl⟩ := h4 0 (by omega)
  simp only [Option.some.injEq, Addr.mk.injEq] at e
  obtain ⟨rfl, rfl, _⟩ := e
  refine ⟨b, off + k * 2, rfl, fun j hj => ?_⟩
  have := hcl (k + j) (by omega)
  rw [show off + (k + j) * 2 = off + k * 2 + j * 2 by omega] at this
  rw [show (l.drop k).getD j (0, 0) = l.getD (k + j) (0, 0) by simp [List.getD]]
  exact this
/-- One range, just laid. -/
theorem reads_new {w : World} {b : Nat} {p q : Int} (h1 : w.cell? ⟨b, 0, none⟩ = some (.int .i64 p)) (h2 : w.cell? ⟨b, 1, none⟩ = some (.int .i64 q)) : ReadsP w (.slice (some ⟨b, 0, none⟩) 1 1) 1 [(p, q)] :=
  ⟨rfl, _, 1, rfl, Nat.le_refl _, by unfold maxLen; omega, (fun e => by cases e), fun i hi => ⟨b, 0, rfl, fun j hj => by
    obtain rfl : j = 0 := by omega
    exact ⟨h1, h2⟩⟩⟩
/-- What lies sorted: each has numbers, by their beginnings, of the numbers of these. -/
def Srt (S m : List (Int × Int)) : Prop := Full S ∧ ByLo S ∧ ∀ n, inS S n ↔ inS m n
def Sorts (w : World) (l : List (Int × Int)) (e : Ending) (w' : World) : Prop := ∃ (v : Value) (m : Nat) (S : List (Int × Int)), e = .returned v ∧ m ≤ l.length ∧ OwnP w' w.heap.size v m S ∧ Srt S (clipL l) ∧ Below w.heap.size w w'

theorem ByLo.drop_gt {S : List (Int × Int)} (h : ByLo S) (p : Int) (k : Nat) (hk : 0 < k) (hl : k ≤ S.length) (hp : p < (S.getD (k - 1) (0, 0)).1) (hd : ∀ r ∈ S.drop k, p < r.1) : ∀ r ∈ S.drop (k - 1), p < r.1 := by
  have e : S.getD (k - 1) (0, 0) = S[k - 1]'(by omega) := by simp [List.getD, List.getElem?_eq_getElem (show k - 1 < S.length by omega)]
  rw [List.drop_eq_getElem_cons (by omega), show k - 1 + 1 = k by omega]
  intro r hr
  rcases List.mem_cons.1 hr with rfl | hr
  · rw [← e]; exact hp
  · exact hd r hr
theorem ByLo.take_le {S : List (Int × Int)} (h : ByLo S) (p : Int) (k : Nat) (hl : k ≤ S.length) (hp : k = 0 ∨ (S.getD (k - 1) (0, 0)).1 ≤ p) : ∀ r ∈ S.take k, r.1 ≤ p := by
  intro r hr
  obtain ⟨i, hi, rfl⟩ := List.mem_iff_getElem.1 hr
  have hi' : i < k := by simp at hi; omega
  rcases hp with rfl | hp
  · omega
  · have e : S.getD (k - 1) (0, 0) = S[k - 1]'(by omega) := by simp [List.getD, List.getElem?_eq_getElem (show k - 1 < S.length by omega)]
    rw [e] at hp
    rw [List.getElem_take]
    rcases Nat.lt_or_eq_of_le (show i ≤ k - 1 by omega) with hlt | heq
    · have := List.pairwise_iff_getElem.1 h i (k - 1) (by omega) (by omega) hlt
      omega
    · subst heq; exact hp
theorem Srt.put {S m : List (Int × Int)} {p q : Int} (h : Srt S m) (k : Nat) (h0 : 0 ≤ p) (h1 : p ≤ q) (h2 : q ≤ 1114111) (ht : ∀ r ∈ S.take k, r.1 ≤ p) (hd : ∀ r ∈ S.drop k, p < r.1) : Srt (S.take k ++ [(p, q)] ++ S.drop k) (m ++ [(p, q)]) := by
  obtain ⟨a1, a2, a3⟩ := put_in (x := (p, q)) k h.2.1 h.1 ⟨h0, h1, h2⟩ ht (fun r hr => by have := hd r hr; simp only; omega)
  rw [List.append_assoc, List.singleton_append]
  exact ⟨a2, a1, fun n => by rw [a3, h.2.2, inS_append, inS_one]⟩

set_option maxRecDepth 100000 in
set_option maxHeartbeats 8000000 in
theorem sorted_any {w : World} {v : Value} {n : Nat} {l : List (Int × Int)} (h : ReadsP w v n l) (hn : n ≤ 100000000) :
    Calls Tryz.prog 65 #[v] w (Sorts w l) := by
  have h0 := h
  obtain ⟨a, cap, rfl, hc, hm, hl⟩ := h.form
  have H0 := Lib.hid h0; clear h h0
  have HL := Lib.hid hl; clear hl
  go_enter Tryz.func65, Tryz.ntmps65
  go_wp2_with fail
  go_loopw [3, 4] (fun s i wr => ∃ (k m : Nat) (S : List (Int × Int)), k ≤ n ∧ m ≤ k ∧ i = .int .i64 k ∧ Hid (OwnP wr w.heap.size s m S) ∧ Hid (Below w.heap.size w wr) ∧ Hid (Srt S (clipL (l.take k)))) (fun _ i _ => n - (intOf i).toNat)
  case atStart => exact ⟨0, 0, [], Nat.zero_le _, Nat.le_refl _, rfl, Lib.hid (OwnP.nil _ _), Lib.hid (Below.refl _ _), Lib.hid ⟨Full.nil, ByLo.nil, fun n => Iff.rfl⟩⟩
  case round =>
    obtain ⟨k, m, S, hk, hmk, rfl, HV, HB, HS⟩ := hrel
    have hz := HB.out.size
    by_cases hlt : k < n
    · obtain ⟨b, off, rfl, hb0, c1, c2⟩ := H0.out.at k hlt
      have c1 := (HB.out.cell (p := ⟨b, off + k * 2, none⟩) hb0).trans c1
      have c2 := (HB.out.cell (p := ⟨b, off + k * 2 + 1, none⟩) hb0).trans c2
      have SN := Lib.hid (clipL_snoc l k (by rw [HL.out]; exact hlt))
      have i0 : (0 : Int) ≤ (k : Int) := Int.natCast_nonneg _
      have i1 : (k : Int) < (n : Int) := by omega
      generalize (l.getD k (0, 0)).1 = x at *
      generalize (l.getD k (0, 0)).2 = y at *
      have hbz : b < wr.heap.size := by omega
      go_wp2_with fail
      go_region
      generalize he1 : max x 0 = p at *
      generalize he2 : min y 1114111 = q at *
      have hp0 : 0 ≤ p := by omega
      have hq0 : q ≤ 1114111 := by omega
      clear he1 he2
      obtain ⟨k1, k2⟩ := (show (wr.alloc (.cells #[.int .i64 p, .int .i64 q] 66)).drew.cell? ⟨wr.heap.size, 0, none⟩ = some (.int .i64 p) ∧ (wr.alloc (.cells #[.int .i64 p, .int .i64 q] 66)).drew.cell? ⟨wr.heap.size, 1, none⟩ = some (.int .i64 q) from new2 wr _ _ _)
      have V2 := Lib.hid ((HV.out.alloc (.cells #[.int .i64 p, .int .i64 q] 66)).drew)
      have W2 := Lib.hid ((HB.out.alloc hz (.cells #[.int .i64 p, .int .i64 q] 66)).drew)
      have hpz : wr.heap.size < (wr.alloc (.cells #[.int .i64 p, .int .i64 q] 66)).drew.heap.size := by show _ < (wr.alloc _).heap.size; simp
      clear c1 c2
      generalize (wr.alloc (.cells #[.int .i64 p, .int .i64 q] 66)).drew = W at *
      generalize wr.heap.size = pb at *
      by_cases hpq : p ≤ q
      · rw [if_pos hpq] at SN
        have hm2 : S.length = m := V2.out.len
        have HM := Lib.hid hm2; clear hm2
        rcases V2.out.form with ⟨rfl, hm0, hS0⟩ | ⟨g, cap3, rfl, hg1, hg2, hc3, hcm3, hcell⟩
        · subst hS0
          subst hm0
          have HDD : Hid (∀ r ∈ List.drop 0 ([] : List (Int × Int)), p < r.1) := Lib.hid (fun r hr => by cases hr)
          have HTT : Hid (∀ r ∈ List.take 0 ([] : List (Int × Int)), r.1 ≤ p) := Lib.hid (fun r hr => by cases hr)
          go_wp2_with fail
          go_loopw [6] (fun s6 w3 => ∃ d : Nat, s6 = .int .i64 0 ∧ w3 = W.drewN d) (fun s6 _ => (intOf s6).toNat)
          case atStart => exact ⟨0, rfl, rfl⟩
          case round =>
            obtain ⟨d, rfl, rfl⟩ := hrel
            go_wp2_with fail
            go_quiet (fail)
            go_wp2_with fail
            have K1 : ((W.drewN d).drewN nq).cell? ⟨pb, 0, none⟩ = some (.int .i64 p) := k1
            have K2 : ((W.drewN d).drewN nq).cell? ⟨pb, 1, none⟩ = some (.int .i64 q) := k2
            have V3 : Hid (OwnP ((W.drewN d).drewN nq) w.heap.size (.slice none 0 0) 0 []) := Lib.hid V2.out
            have W3b : Hid (Below w.heap.size w ((W.drewN d).drewN nq)) := Lib.hid (Below.drewN' (Below.drewN' W2.out _) _)
            have hpz : pb < ((W.drewN d).drewN nq).heap.size := hpz
            clear k1 k2 V2 W2
            generalize ((W.drewN d).drewN nq) = W3 at *
            have hzw := W3b.out.size
            have A1 := Lib.hid (OwnP.empty W3).drew
            have A2 := Lib.hid ((OwnP.empty W3).alloc (.cells #[.int .i64 p, .int .i64 q] 66)).drew
            have A3 : Hid (OwnP ((W3.alloc (.cells #[.int .i64 p, .int .i64 q] 66)).alloc (.cells #[] 66)).drew W3.heap.size (.slice (some ⟨W3.heap.size + 1, 0, none⟩) 0 0) 0 []) := Lib.hid (by
              have := (OwnP.empty (W3.alloc (.cells #[.int .i64 p, .int .i64 q] 66))).drew
              rw [World.size_alloc] at this
              exact this.more (by omega))
            have X2 : Hid (((W3.alloc (.cells #[] 66)).alloc (.cells #[.int .i64 p, .int .i64 q] 66)).drew.cell? ⟨W3.heap.size + 1, 0, none⟩ = some (.int .i64 p) ∧ ((W3.alloc (.cells #[] 66)).alloc (.cells #[.int .i64 p, .int .i64 q] 66)).drew.cell? ⟨W3.heap.size + 1, 1, none⟩ = some (.int .i64 q)) := Lib.hid (by
              have := new2 (W3.alloc (.cells #[] 66)) (.int .i64 p) (.int .i64 q) 66
              rw [World.size_alloc] at this
              exact this)
            have X3 : Hid (((W3.alloc (.cells #[.int .i64 p, .int .i64 q] 66)).alloc (.cells #[] 66)).drew.cell? ⟨W3.heap.size, 0, none⟩ = some (.int .i64 p) ∧ ((W3.alloc (.cells #[.int .i64 p, .int .i64 q] 66)).alloc (.cells #[] 66)).drew.cell? ⟨W3.heap.size, 1, none⟩ = some (.int .i64 q)) := Lib.hid ⟨keepA (new2 W3 _ _ _).1 _, keepA (new2 W3 _ _ _).2 _⟩
            go_wp2_with fail
            go_region_law (first
              | (refine step_concatP (by rfl) (.tmp 48) (.tmp 51) (by rfl) W3.heap.size (.slice (some ⟨W3.heap.size, 0, none⟩) 0 0) 0 [] (by rfl) A1.out _ 0 (([] : List (Int × Int)).take 0) (by rfl) ((ReadsP.nil W3).alloc _) (by omega) (by show W3.heap.size ≤ (W3.alloc _).heap.size; simp) ?_
                 intro v4 w4 h1 h2 _ _
                 have HO4 := Lib.hid h1
                 have HB4 := Lib.hid ((((Below.refl W3.heap.size W3).alloc (Nat.le_refl _) _).drew).trans h2)
                 have k1' := (HB4.out.cell (p := ⟨pb, 0, none⟩) hpz).trans K1
                 have k2' := (HB4.out.cell (p := ⟨pb, 1, none⟩) hpz).trans K2
                 have hz4 := HB4.out.size
                 clear h1 h2)
              | (refine step_concatP (by rfl) (.tmp 48) (.tmp 51) (by rfl) W3.heap.size (.slice (some ⟨W3.heap.size, 0, none⟩) 0 0) 0 [] (by rfl) A2.out _ 0 (([] : List (Int × Int)).take 0) (by rfl) (((ReadsP.nil W3).alloc _).alloc _) (by omega) (by show W3.heap.size ≤ ((W3.alloc _).alloc _).heap.size; simp; omega) ?_
                 intro v4 w4 h1 h2 h3 _
                 have HO4 := Lib.hid h1
                 have HB4 := Lib.hid (((((Below.refl W3.heap.size W3).alloc (Nat.le_refl _) _).alloc (by simp) _).drew).trans h2)
                 have HX4 := Lib.hid (reads_new (h3.cell X2.out.1 (by simp [Value.ownBlock])) (h3.cell X2.out.2 (by simp [Value.ownBlock])))
                 have hz4 := HB4.out.size
                 clear h1 h2 h3)
              | (refine step_concatP (by rfl) (.tmp 48) (.tmp 51) (by rfl) W3.heap.size (.slice (some ⟨W3.heap.size + 1, 0, none⟩) 0 0) 0 [] (by rfl) A3.out _ 0 (([] : List (Int × Int)).take 0) (by rfl) (((ReadsP.nil W3).alloc _).alloc _) (by omega) (by show W3.heap.size ≤ ((W3.alloc _).alloc _).heap.size; simp; omega) ?_
                 intro v4 w4 h1 h2 h3 _
                 have HO4 := Lib.hid h1
                 have HB4 := Lib.hid (((((Below.refl W3.heap.size W3).alloc (Nat.le_refl _) _).alloc (by simp) _).drew).trans h2)
                 have HX4 := Lib.hid (reads_new (h3.cell X3.out.1 (by simp [Value.ownBlock])) (h3.cell X3.out.2 (by simp [Value.ownBlock])))
                 have hz4 := HB4.out.size
                 clear h1 h2 h3)
              | (refine step_concatP (by rfl) (.tmp 52) (.tmp 54) (by rfl) W3.heap.size v4 (0 + 0) ([] ++ ([] : List (Int × Int)).take 0) (by rfl) HO4.out _ 1 [(p, q)] (by rfl) HX4.out (by omega) hz4 ?_
                 intro v5 w5 h1 h2 _ _
                 have HO5 := Lib.hid h1
                 have HB5 := Lib.hid (HB4.out.trans h2)
                 have hz5 := HB5.out.size
                 clear h1 h2)
              | (refine step_concatP (by rfl) (.tmp 52) (.tmp 54) (by rfl) W3.heap.size v4 (0 + 0) ([] ++ ([] : List (Int × Int)).take 0) (by rfl) (HO4.out.alloc _) _ 1 [(p, q)] (by rfl) (reads_new (new2 w4 _ _ _).1 (new2 w4 _ _ _).2) (by omega) (by show W3.heap.size ≤ (w4.alloc _).heap.size; simp; omega) ?_
                 intro v5 w5 h1 h2 _ _
                 have HO5 := Lib.hid h1
                 have HB5 := Lib.hid ((HB4.out.alloc hz4 _).trans h2)
                 have hz5 := HB5.out.size
                 clear h1 h2)
              | (refine step_concatP (by rfl) (.tmp 55) (.tmp 58) (by rfl) W3.heap.size v5 (0 + 0 + 1) ([] ++ ([] : List (Int × Int)).take 0 ++ [(p, q)]) (by rfl) HO5.out _ (0 - 0) (([] : List (Int × Int)).drop 0) (by rfl) ((ReadsP.nil W3).below HB5.out) (by omega) hz5 ?_
                 intro v6 w6 h1 h2 _ _
                 have HO6 := Lib.hid h1
                 have HB6 := Lib.hid (HB5.out.trans h2)
                 clear h1 h2))
            all_goals
              go_wp2_with fail
              refine ⟨⟨k + 1, 0 + 1, ([] : List (Int × Int)).take 0 ++ [(p, q)] ++ ([] : List (Int × Int)).drop 0, by omega, by omega, by go_num, Lib.hid ((HO6.out.more hzw).cast (by omega) (by simp)), Lib.hid (W3b.out.trans (HB6.out.mono hzw)), Lib.hid ?_⟩, by simp [intOf]; omega⟩
              rw [SN.out]
              exact HS.out.put 0 hp0 hpq hq0 HTT.out HDD.out
        · have HC := Lib.hid hcell; clear hcell
          have hcm3 : cap3 ≤ 9223372036854775807 := by unfold maxLen at hcm3; exact hcm3
          go_wp2_with fail
          go_loopw [6] (fun s6 w3 => ∃ (j d : Nat), j ≤ m ∧ s6 = .int .i64 j ∧ Hid (∀ r ∈ S.drop j, p < r.1) ∧ w3 = W.drewN d) (fun s6 _ => (intOf s6).toNat)
          case atStart => exact ⟨m, 0, Nat.le_refl _, rfl, Lib.hid (by rw [List.drop_of_length_le (by have := HM.out; omega)]; intro r hr; cases hr), rfl⟩
          case round =>
            obtain ⟨j, d, hj, rfl, HDD, rfl⟩ := hrel
            have HE := Lib.hid (fun hp => HS.out.2.1.take_le p j (by have := HM.out; omega) hp : (j = 0 ∨ (S.getD (j - 1) (0, 0)).1 ≤ p) → ∀ r ∈ S.take j, r.1 ≤ p)
            by_cases hj0 : 0 < j
            · obtain ⟨c1, _⟩ := HC.out (j - 1) (by omega)
              have HG := Lib.hid (HS.out.2.1.drop_gt p j hj0 (by have := HM.out; omega))
              have e2 : (j : Int) - 1 < (m : Int) := by omega
              have e3 : 0 ≤ (j : Int) - 1 := by omega
              have e5 : (0 : Int) < (j : Int) := by omega
              have e4 : ((j : Int) - 1).toNat = j - 1 := by omega
              have e1 : IntKind.i64.wrap ((j : Int) - 1) = (j : Int) - 1 := IntWalk.i64_in _ (by omega)
              generalize hz1 : (S.getD (j - 1) (0, 0)).1 = z at *
              have HZ := Lib.hid hz1; clear hz1
              rw [Nat.zero_add] at c1
              by_cases hlt2 : p < z
              · go_wp2_with fail
                go_quiet (fail)
                go_wp2_with fail
                exact ⟨⟨j - 1, _, by omega, by congr 1; omega, Lib.hid (HG.out hlt2 HDD.out), rfl⟩, by simp [intOf]; omega⟩
              · have HTT := Lib.hid (HE.out (.inr (by omega)))
                clear HE HG
                go_wp2_with fail
                go_quiet (fail)
                go_wp2_with fail
                clear e1 e2 e3 e4 c1
                have K1 : ((W.drewN d).drewN nq).cell? ⟨pb, 0, none⟩ = some (.int .i64 p) := k1
                have K2 : ((W.drewN d).drewN nq).cell? ⟨pb, 1, none⟩ = some (.int .i64 q) := k2
                have V3 : Hid (OwnP ((W.drewN d).drewN nq) w.heap.size (.slice (some ⟨g, 0, none⟩) m cap3) m S) := Lib.hid V2.out
                have W3b : Hid (Below w.heap.size w ((W.drewN d).drewN nq)) := Lib.hid (Below.drewN' (Below.drewN' W2.out _) _)
                have hpz : pb < ((W.drewN d).drewN nq).heap.size := hpz
                clear k1 k2 V2 W2
                generalize ((W.drewN d).drewN nq) = W3 at *
                have hzw := W3b.out.size
                have A1 := Lib.hid (OwnP.empty W3).drew
                have A2 := Lib.hid ((OwnP.empty W3).alloc (.cells #[.int .i64 p, .int .i64 q] 66)).drew
                have A3 : Hid (OwnP ((W3.alloc (.cells #[.int .i64 p, .int .i64 q] 66)).alloc (.cells #[] 66)).drew W3.heap.size (.slice (some ⟨W3.heap.size + 1, 0, none⟩) 0 0) 0 []) := Lib.hid (by
                  have := (OwnP.empty (W3.alloc (.cells #[.int .i64 p, .int .i64 q] 66))).drew
                  rw [World.size_alloc] at this
                  exact this.more (by omega))
                have X2 : Hid (((W3.alloc (.cells #[] 66)).alloc (.cells #[.int .i64 p, .int .i64 q] 66)).drew.cell? ⟨W3.heap.size + 1, 0, none⟩ = some (.int .i64 p) ∧ ((W3.alloc (.cells #[] 66)).alloc (.cells #[.int .i64 p, .int .i64 q] 66)).drew.cell? ⟨W3.heap.size + 1, 1, none⟩ = some (.int .i64 q)) := Lib.hid (by
                  have := new2 (W3.alloc (.cells #[] 66)) (.int .i64 p) (.int .i64 q) 66
                  rw [World.size_alloc] at this
                  exact this)
                have X3 : Hid (((W3.alloc (.cells #[.int .i64 p, .int .i64 q] 66)).alloc (.cells #[] 66)).drew.cell? ⟨W3.heap.size, 0, none⟩ = some (.int .i64 p) ∧ ((W3.alloc (.cells #[.int .i64 p, .int .i64 q] 66)).alloc (.cells #[] 66)).drew.cell? ⟨W3.heap.size, 1, none⟩ = some (.int .i64 q)) := Lib.hid ⟨keepA (new2 W3 _ _ _).1 _, keepA (new2 W3 _ _ _).2 _⟩
                have RT := Lib.hid (V3.out.reads.take hj)
                have rd := V3.out.reads.dropN hj
                rw [Nat.zero_add] at rd
                have RD := Lib.hid rd; clear rd
                have f1 : (j : Int) ≤ (cap3 : Int) := by omega
                have f2 : (j : Int) ≤ (m : Int) := by omega
                have f3 : 0 ≤ (j : Int) := by omega
                go_wp2_with fail
                go_region_law (first
                  | (refine step_concatP (by rfl) (.tmp 48) (.tmp 51) (by rfl) W3.heap.size (.slice (some ⟨W3.heap.size, 0, none⟩) 0 0) 0 [] (by rfl) A1.out _ j (S.take j) (by rfl) (RT.out.alloc _) (by omega) (by show W3.heap.size ≤ (W3.alloc _).heap.size; simp) ?_
                     intro v4 w4 h1 h2 _ _
                     have HO4 := Lib.hid h1
                     have HB4 := Lib.hid ((((Below.refl W3.heap.size W3).alloc (Nat.le_refl _) _).drew).trans h2)
                     have k1' := (HB4.out.cell (p := ⟨pb, 0, none⟩) hpz).trans K1
                     have k2' := (HB4.out.cell (p := ⟨pb, 1, none⟩) hpz).trans K2
                     have hz4 := HB4.out.size
                     clear h1 h2)
                  | (refine step_concatP (by rfl) (.tmp 48) (.tmp 51) (by rfl) W3.heap.size (.slice (some ⟨W3.heap.size, 0, none⟩) 0 0) 0 [] (by rfl) A2.out _ j (S.take j) (by rfl) ((RT.out.alloc _).alloc _) (by omega) (by show W3.heap.size ≤ ((W3.alloc _).alloc _).heap.size; simp; omega) ?_
                     intro v4 w4 h1 h2 h3 _
                     have HO4 := Lib.hid h1
                     have HB4 := Lib.hid (((((Below.refl W3.heap.size W3).alloc (Nat.le_refl _) _).alloc (by simp) _).drew).trans h2)
                     have HX4 := Lib.hid (reads_new (h3.cell X2.out.1 (by simp [Value.ownBlock])) (h3.cell X2.out.2 (by simp [Value.ownBlock])))
                     have hz4 := HB4.out.size
                     clear h1 h2 h3)
                  | (refine step_concatP (by rfl) (.tmp 48) (.tmp 51) (by rfl) W3.heap.size (.slice (some ⟨W3.heap.size + 1, 0, none⟩) 0 0) 0 [] (by rfl) A3.out _ j (S.take j) (by rfl) ((RT.out.alloc _).alloc _) (by omega) (by show W3.heap.size ≤ ((W3.alloc _).alloc _).heap.size; simp; omega) ?_
                     intro v4 w4 h1 h2 h3 _
                     have HO4 := Lib.hid h1
                     have HB4 := Lib.hid (((((Below.refl W3.heap.size W3).alloc (Nat.le_refl _) _).alloc (by simp) _).drew).trans h2)
                     have HX4 := Lib.hid (reads_new (h3.cell X3.out.1 (by simp [Value.ownBlock])) (h3.cell X3.out.2 (by simp [Value.ownBlock])))
                     have hz4 := HB4.out.size
                     clear h1 h2 h3)
                  | (refine step_concatP (by rfl) (.tmp 52) (.tmp 54) (by rfl) W3.heap.size v4 (0 + j) ([] ++ S.take j) (by rfl) HO4.out _ 1 [(p, q)] (by rfl) HX4.out (by omega) hz4 ?_
                     intro v5 w5 h1 h2 _ _
                     have HO5 := Lib.hid h1
                     have HB5 := Lib.hid (HB4.out.trans h2)
                     have hz5 := HB5.out.size
                     clear h1 h2)
                  | (refine step_concatP (by rfl) (.tmp 52) (.tmp 54) (by rfl) W3.heap.size v4 (0 + j) ([] ++ S.take j) (by rfl) (HO4.out.alloc _) _ 1 [(p, q)] (by rfl) (reads_new (new2 w4 _ _ _).1 (new2 w4 _ _ _).2) (by omega) (by show W3.heap.size ≤ (w4.alloc _).heap.size; simp; omega) ?_
                     intro v5 w5 h1 h2 _ _
                     have HO5 := Lib.hid h1
                     have HB5 := Lib.hid ((HB4.out.alloc hz4 _).trans h2)
                     have hz5 := HB5.out.size
                     clear h1 h2)
                  | (refine step_concatP (by rfl) (.tmp 55) (.tmp 58) (by rfl) W3.heap.size v5 (0 + j + 1) ([] ++ S.take j ++ [(p, q)]) (by rfl) HO5.out _ (m - j) (S.drop j) (by rfl) (RD.out.below HB5.out) (by omega) hz5 ?_
                     intro v6 w6 h1 h2 _ _
                     have HO6 := Lib.hid h1
                     have HB6 := Lib.hid (HB5.out.trans h2)
                     clear h1 h2))
                all_goals
                  go_wp2_with fail
                  refine ⟨⟨k + 1, m + 1, S.take j ++ [(p, q)] ++ S.drop j, by omega, by omega, by go_num, Lib.hid ((HO6.out.more hzw).cast (by omega) (by simp)), Lib.hid (W3b.out.trans (HB6.out.mono hzw)), Lib.hid ?_⟩, by simp [intOf]; omega⟩
                  rw [SN.out]
                  exact HS.out.put j hp0 hpq hq0 HTT.out HDD.out
            · have HTT := Lib.hid (HE.out (.inl (by omega)))
              have t5 : decide (0 < j) = false := by simpa using hj0
              have e5 : ¬ (0 : Int) < (j : Int) := by omega
              clear HE
              go_wp2_with fail
              go_quiet (fail)
              go_wp2_with fail
              have K1 : ((W.drewN d).drewN nq).cell? ⟨pb, 0, none⟩ = some (.int .i64 p) := k1
              have K2 : ((W.drewN d).drewN nq).cell? ⟨pb, 1, none⟩ = some (.int .i64 q) := k2
              have V3 : Hid (OwnP ((W.drewN d).drewN nq) w.heap.size (.slice (some ⟨g, 0, none⟩) m cap3) m S) := Lib.hid V2.out
              have W3b : Hid (Below w.heap.size w ((W.drewN d).drewN nq)) := Lib.hid (Below.drewN' (Below.drewN' W2.out _) _)
              have hpz : pb < ((W.drewN d).drewN nq).heap.size := hpz
              clear k1 k2 V2 W2
              generalize ((W.drewN d).drewN nq) = W3 at *
              have hzw := W3b.out.size
              have A1 := Lib.hid (OwnP.empty W3).drew
              have A2 := Lib.hid ((OwnP.empty W3).alloc (.cells #[.int .i64 p, .int .i64 q] 66)).drew
              have A3 : Hid (OwnP ((W3.alloc (.cells #[.int .i64 p, .int .i64 q] 66)).alloc (.cells #[] 66)).drew W3.heap.size (.slice (some ⟨W3.heap.size + 1, 0, none⟩) 0 0) 0 []) := Lib.hid (by
                have := (OwnP.empty (W3.alloc (.cells #[.int .i64 p, .int .i64 q] 66))).drew
                rw [World.size_alloc] at this
                exact this.more (by omega))
              have X2 : Hid (((W3.alloc (.cells #[] 66)).alloc (.cells #[.int .i64 p, .int .i64 q] 66)).drew.cell? ⟨W3.heap.size + 1, 0, none⟩ = some (.int .i64 p) ∧ ((W3.alloc (.cells #[] 66)).alloc (.cells #[.int .i64 p, .int .i64 q] 66)).drew.cell? ⟨W3.heap.size + 1, 1, none⟩ = some (.int .i64 q)) := Lib.hid (by
                have := new2 (W3.alloc (.cells #[] 66)) (.int .i64 p) (.int .i64 q) 66
                rw [World.size_alloc] at this
                exact this)
              have X3 : Hid (((W3.alloc (.cells #[.int .i64 p, .int .i64 q] 66)).alloc (.cells #[] 66)).drew.cell? ⟨W3.heap.size, 0, none⟩ = some (.int .i64 p) ∧ ((W3.alloc (.cells #[.int .i64 p, .int .i64 q] 66)).alloc (.cells #[] 66)).drew.cell? ⟨W3.heap.size, 1, none⟩ = some (.int .i64 q)) := Lib.hid ⟨keepA (new2 W3 _ _ _).1 _, keepA (new2 W3 _ _ _).2 _⟩
              have RT := Lib.hid (V3.out.reads.take hj)
              have rd := V3.out.reads.dropN hj
              rw [Nat.zero_add] at rd
              have RD := Lib.hid rd; clear rd
              have f1 : (j : Int) ≤ (cap3 : Int) := by omega
              have f2 : (j : Int) ≤ (m : Int) := by omega
              have f3 : 0 ≤ (j : Int) := by omega
              go_wp2_with fail
              go_region_law (first
                | (refine step_concatP (by rfl) (.tmp 48) (.tmp 51) (by rfl) W3.heap.size (.slice (some ⟨W3.heap.size, 0, none⟩) 0 0) 0 [] (by rfl) A1.out _ j (S.take j) (by rfl) (RT.out.alloc _) (by omega) (by show W3.heap.size ≤ (W3.alloc _).heap.size; simp) ?_
                   intro v4 w4 h1 h2 _ _
                   have HO4 := Lib.hid h1
                   have HB4 := Lib.hid ((((Below.refl W3.heap.size W3).alloc (Nat.le_refl _) _).drew).trans h2)
                   have k1' := (HB4.out.cell (p := ⟨pb, 0, none⟩) hpz).trans K1
                   have k2' := (HB4.out.cell (p := ⟨pb, 1, none⟩) hpz).trans K2
                   have hz4 := HB4.out.size
                   clear h1 h2)
                | (refine step_concatP (by rfl) (.tmp 48) (.tmp 51) (by rfl) W3.heap.size (.slice (some ⟨W3.heap.size, 0, none⟩) 0 0) 0 [] (by rfl) A2.out _ j (S.take j) (by rfl) ((RT.out.alloc _).alloc _) (by omega) (by show W3.heap.size ≤ ((W3.alloc _).alloc _).heap.size; simp; omega) ?_
                   intro v4 w4 h1 h2 h3 _
                   have HO4 := Lib.hid h1
                   have HB4 := Lib.hid (((((Below.refl W3.heap.size W3).alloc (Nat.le_refl _) _).alloc (by simp) _).drew).trans h2)
                   have HX4 := Lib.hid (reads_new (h3.cell X2.out.1 (by simp [Value.ownBlock])) (h3.cell X2.out.2 (by simp [Value.ownBlock])))
                   have hz4 := HB4.out.size
                   clear h1 h2 h3)
                | (refine step_concatP (by rfl) (.tmp 48) (.tmp 51) (by rfl) W3.heap.size (.slice (some ⟨W3.heap.size + 1, 0, none⟩) 0 0) 0 [] (by rfl) A3.out _ j (S.take j) (by rfl) ((RT.out.alloc _).alloc _) (by omega) (by show W3.heap.size ≤ ((W3.alloc _).alloc _).heap.size; simp; omega) ?_
                   intro v4 w4 h1 h2 h3 _
                   have HO4 := Lib.hid h1
                   have HB4 := Lib.hid (((((Below.refl W3.heap.size W3).alloc (Nat.le_refl _) _).alloc (by simp) _).drew).trans h2)
                   have HX4 := Lib.hid (reads_new (h3.cell X3.out.1 (by simp [Value.ownBlock])) (h3.cell X3.out.2 (by simp [Value.ownBlock])))
                   have hz4 := HB4.out.size
                   clear h1 h2 h3)
                | (refine step_concatP (by rfl) (.tmp 52) (.tmp 54) (by rfl) W3.heap.size v4 (0 + j) ([] ++ S.take j) (by rfl) HO4.out _ 1 [(p, q)] (by rfl) HX4.out (by omega) hz4 ?_
                   intro v5 w5 h1 h2 _ _
                   have HO5 := Lib.hid h1
                   have HB5 := Lib.hid (HB4.out.trans h2)
                   have hz5 := HB5.out.size
                   clear h1 h2)
                | (refine step_concatP (by rfl) (.tmp 52) (.tmp 54) (by rfl) W3.heap.size v4 (0 + j) ([] ++ S.take j) (by rfl) (HO4.out.alloc _) _ 1 [(p, q)] (by rfl) (reads_new (new2 w4 _ _ _).1 (new2 w4 _ _ _).2) (by omega) (by show W3.heap.size ≤ (w4.alloc _).heap.size; simp; omega) ?_
                   intro v5 w5 h1 h2 _ _
                   have HO5 := Lib.hid h1
                   have HB5 := Lib.hid ((HB4.out.alloc hz4 _).trans h2)
                   have hz5 := HB5.out.size
                   clear h1 h2)
                | (refine step_concatP (by rfl) (.tmp 55) (.tmp 58) (by rfl) W3.heap.size v5 (0 + j + 1) ([] ++ S.take j ++ [(p, q)]) (by rfl) HO5.out _ (m - j) (S.drop j) (by rfl) (RD.out.below HB5.out) (by omega) hz5 ?_
                   intro v6 w6 h1 h2 _ _
                   have HO6 := Lib.hid h1
                   have HB6 := Lib.hid (HB5.out.trans h2)
                   clear h1 h2))
              all_goals
                go_wp2_with fail
                refine ⟨⟨k + 1, m + 1, S.take j ++ [(p, q)] ++ S.drop j, by omega, by omega, by go_num, Lib.hid ((HO6.out.more hzw).cast (by omega) (by simp)), Lib.hid (W3b.out.trans (HB6.out.mono hzw)), Lib.hid ?_⟩, by simp [intOf]; omega⟩
                rw [SN.out]
                exact HS.out.put j hp0 hpq hq0 HTT.out HDD.out
      · rw [if_neg hpq, List.append_nil] at SN
        go_wp2_with fail
        exact ⟨⟨k + 1, m, S, by omega, by omega, by go_num, V2, W2, Lib.hid (by rw [SN.out]; exact HS.out)⟩, by simp [intOf]; omega⟩
    · go_wp2_with fail
      go_ret
      have e : l.take k = l := List.take_of_length_le (by have := HL.out; omega)
      refine ⟨_, m, S, rfl, by have := HL.out; omega, HV.out, ?_, HB.out⟩
      have := HS.out; rw [e] at this; exact this

end Go.Proofs.YtalgnnidhnhciaaGreatDoor

namespace Go.Proofs.YtalgnnidhnhciaaGreatDoor
open Go Go.RowKit
set_option linter.unusedVariables false

theorem modify_last (l : List (Int × Int)) (r : Int × Int) (f : Int × Int → Int × Int) : (l ++ [r]).modify l.length f = l ++ [f r] := by
  induction l with
  | nil => rfl
  | cons x l ih => simp only [List.cons_append, List.length_cons, List.modify_succ_cons, ih]
theorem OwnP.set2 {w : World} {B g cap n : Nat} {l : List (Int × Int)} (h : OwnP w B (.slice (some ⟨g, 0, none⟩) n cap) n l) (i : Nat) (x : Int) :
    OwnP (w.setCell ⟨g, i * 2 + 1, none⟩ (.int .i64 x)) B (.slice (some ⟨g, 0, none⟩) n cap) n (l.modify i fun r => (r.1, x)) := by
  have := (World.ownsRow.stored h (i * 2 + 1) (.int .i64 x)).1
  rw [flatP_set2] at this
  exact this
theorem OwnP.set1 {w : World} {B g cap n : Nat} {l : List (Int × Int)} (h : OwnP w B (.slice (some ⟨g, 0, none⟩) n cap) n l) (i : Nat) (x : Int) :
    OwnP (w.setCell ⟨g, i * 2, none⟩ (.int .i64 x)) B (.slice (some ⟨g, 0, none⟩) n cap) n (l.modify i fun r => (x, r.2)) := by
  have := (World.ownsRow.stored h (i * 2) (.int .i64 x)).1
  rw [flatP_set1] at this
  exact this
theorem OwnP.thaw {w : World} {B g cap n : Nat} {l : List (Int × Int)} (h : OwnP w B (.slice (some ⟨g, 0, none⟩) n cap) n l) (j : Nat) : w.frozen? ⟨g, j, none⟩ = false := World.ownsRow.frozenAt h j

/-- What has been joined of a sorted row's front. -/
def Jnd (S R : List (Int × Int)) (k : Nat) : Prop := Rt R ∧ (∀ n, inS R n ↔ inS (S.take k) n) ∧ ∀ r ∈ R, ∀ x ∈ S.drop k, r.1 ≤ x.1
theorem Jnd.grow {S R : List (Int × Int)} {k : Nat} {a h c d : Int} (hS : ByLo S) (hk : k < S.length) (hx : S.getD k (0, 0) = (c, d)) (hf : 0 ≤ c ∧ c ≤ d ∧ d ≤ 1114111) (hj : Jnd S (R ++ [(a, h)]) k) (ht : c ≤ h + 1) : Jnd S (R ++ [(a, max h d)]) (k + 1) := by
  obtain ⟨h1, h2, h3⟩ := hj
  have hd := drop_at S k hk
  rw [hx] at hd
  have hac : a ≤ c := h3 (a, h) (by simp) (c, d) (by rw [hd]; exact List.mem_cons_self)
  obtain ⟨p, q⟩ := join_last h1 hac ht hf.2.1 hf.2.2
  have e : S.take (k + 1) = S.take k ++ [(c, d)] := by
    rw [List.take_succ_eq_append_getElem hk]
    have e : S.getD k (0, 0) = S[k] := by simp [List.getD, List.getElem?_eq_getElem hk]
    rw [← e, hx]
  refine ⟨p, fun n => by rw [q, h2, e, inS_append, inS_one], fun r hr x hx' => ?_⟩
  have hxx : x ∈ S.drop k := by rw [hd]; exact List.mem_cons_of_mem _ hx'
  rcases List.mem_append.1 hr with hr | hr
  · exact h3 r (by simp [hr]) x hxx
  · obtain rfl : r = (a, max h d) := by simpa using hr
    exact h3 (a, h) (by simp) x hxx
theorem Jnd.push {S R : List (Int × Int)} {k : Nat} {c d : Int} (hS : ByLo S) (hk : k < S.length) (hx : S.getD k (0, 0) = (c, d)) (hf : 0 ≤ c ∧ c ≤ d ∧ d ≤ 1114111) (hj : Jnd S R k) (ht : ∀ r ∈ R, r.2 + 2 ≤ c) : Jnd S (R ++ [(c, d)]) (k + 1) := by
  obtain ⟨h1, h2, h3⟩ := hj
  have hd := drop_at S k hk
  rw [hx] at hd
  obtain ⟨p, q⟩ := new_last h1 hf.1 ht hf.2.1 hf.2.2
  have e : S.take (k + 1) = S.take k ++ [(c, d)] := by
    rw [List.take_succ_eq_append_getElem hk]
    have e : S.getD k (0, 0) = S[k] := by simp [List.getD, List.getElem?_eq_getElem hk]
    rw [← e, hx]
  refine ⟨p, fun n => by rw [q, h2, e, inS_append, inS_one], fun r hr x hx' => ?_⟩
  have hxx : x ∈ S.drop k := by rw [hd]; exact List.mem_cons_of_mem _ hx'
  rcases List.mem_append.1 hr with hr | hr
  · exact h3 r hr x hxx
  · obtain rfl : r = (c, d) := by simpa using hr
    have hb : ByLo (S.drop k) := List.Pairwise.sublist (List.drop_sublist k S) hS
    rw [hd] at hb
    exact (List.pairwise_cons.1 hb).1 x hx'
theorem Jnd.done {S R l : List (Int × Int)} {k : Nat} (hj : Jnd S R k) (hk : S.length ≤ k) (hs : Srt S (clipL l)) : R = normL l := by
  refine canon hj.1 (normL_rt _) fun n => ?_
  rw [hj.2.1, List.take_of_length_le hk, hs.2.2, clipL_in, normL_in]

set_option maxRecDepth 100000 in
set_option maxHeartbeats 8000000 in
theorem rnorm_any {w : World} {v : Value} {n : Nat} {l : List (Int × Int)} (h : ReadsP w v n l) (hn : n ≤ 100000000) :
    Calls Tryz.prog 33 #[v] w (Tells w (normL l)) := by
  have HC := Lib.hid (sorted_any h hn)
  have hl := h.1
  clear h
  go_enter Tryz.func33, Tryz.ntmps33
  go_wp2_with fail
  refine HC.out.mono ?_
  rintro e w1 ⟨v1, ns, S, rfl, hm, ho, hs, hb⟩
  have hns : ns ≤ 100000000 := by omega
  have HLS := Lib.hid ho.len
  obtain ⟨a1, cap1, rfl, hc1, hcm1, _⟩ := ho.reads.form
  have HO := Lib.hid ho.reads; have HB := Lib.hid hb; have HS := Lib.hid hs; have hz1 := hb.size
  clear ho hb hs hm hl
  go_wp2_with fail
  go_loopw [3, 5] (fun s i wr => ∃ (k m : Nat) (R : List (Int × Int)), k ≤ ns ∧ m ≤ k ∧ i = .int .i64 k ∧ Hid (OwnP wr w1.heap.size s m R) ∧ Hid (Below w1.heap.size w1 wr) ∧ Hid (Jnd S R k)) (fun _ i _ => ns - (intOf i).toNat)
  case atStart => exact ⟨0, 0, [], Nat.zero_le _, Nat.le_refl _, rfl, Lib.hid (OwnP.nil _ _), Lib.hid (Below.refl _ _), Lib.hid ⟨trivial, fun n => Iff.rfl, fun r hr => by cases hr⟩⟩
  case round =>
    obtain ⟨k, m, R, hk, hmk, rfl, HV, HW, HJ⟩ := hrel
    have hz := HW.out.size
    by_cases hlt : k < ns
    · obtain ⟨b, off, rfl, hb0, c1, c2⟩ := HO.out.at k hlt
      have c1 := (HW.out.cell (p := ⟨b, off + k * 2, none⟩) hb0).trans c1
      have c2 := (HW.out.cell (p := ⟨b, off + k * 2 + 1, none⟩) hb0).trans c2
      have hfl := HS.out.1 (S.getD k (0, 0)) (by
        have e : S.getD k (0, 0) = S[k]'(by have := HLS.out; omega) := by simp [List.getD, List.getElem?_eq_getElem (show k < S.length by have := HLS.out; omega)]
        rw [e]; exact List.getElem_mem _)
      have HX : Hid (S.getD k (0, 0) = ((S.getD k (0, 0)).1, (S.getD k (0, 0)).2)) := Lib.hid rfl
      have i0 : (0 : Int) ≤ (k : Int) := Int.natCast_nonneg _
      have i1 : (k : Int) < (ns : Int) := by omega
      generalize (S.getD k (0, 0)).1 = c at *
      generalize (S.getD k (0, 0)).2 = d at *
      obtain ⟨f1, f2, f3⟩ := hfl
      rcases List.eq_nil_or_concat R with hR | ⟨R', r, hR⟩
      · obtain rfl : m = 0 := by have := HV.out.len; rw [hR] at this; simpa using this.symm
        have HP := Lib.hid (HJ.out.push HS.out.2.1 (by have := HLS.out; omega) HX.out ⟨f1, f2, f3⟩ (by rw [hR]; intro r hr; cases hr))
        clear hR
        obtain ⟨a3, cap3, rfl, hc3, hcm3, _⟩ := HV.out.reads.form
        go_wp2_with fail
        go_quiet (fail)
        go_wp2_with (at_builtin; refine wpList_pushP rfl (.tmp 49) (.tmp 54) rfl w1.heap.size _ _ _ _ _ _ (by rfl) (HV.out.drewN _) _ (by rfl) rfl (by omega) hz ?_
                     intro g1 c1 w2 hp1
                     have HP1 := Lib.hid hp1; clear hp1)
        exact ⟨⟨k + 1, 0 + 1, _, by omega, by omega, by go_num, Lib.hid HP1.out.own, Lib.hid (HP1.out.below (HW.out.drewN' _) (Nat.le_refl _) hz), HP⟩, by simp [intOf]; omega⟩
      · obtain ⟨a0, h0⟩ := r
        rw [List.concat_eq_append] at hR
        subst hR
        have hmR : m = R'.length + 1 := by have := HV.out.len; simpa using this.symm
        have HMR := Lib.hid hmR
        have hm0 : 0 < m := by omega
        rcases HV.out.form with ⟨_, hz0, _⟩ | ⟨g, cap3, rfl, hg1, hg2, hc3, hcm3, hcell⟩
        · omega
        obtain ⟨k1, k2⟩ := hcell (m - 1) (by omega)
        have eR : (R' ++ [(a0, h0)]).getD (m - 1) (0, 0) = (a0, h0) := by rw [hmR]; simp [List.getD]
        rw [eR] at k1 k2
        simp only [Nat.zero_add] at k1 k2
        have hrt := HJ.out.1.full (a0, h0) (by simp)
        simp only at hrt
        obtain ⟨r1, r2, r3⟩ := hrt
        have hcm3 : cap3 ≤ 9223372036854775807 := by unfold maxLen at hcm3; exact hcm3
        have e2 : (m : Int) - 1 < (m : Int) := by omega
        have e3 : 0 ≤ (m : Int) - 1 := by omega
        have e5 : (1 : Int) ≤ (m : Int) := by omega
        have e4 : ((m : Int) - 1).toNat = m - 1 := by omega
        have e6 : IntKind.i64.wrap (h0 + 1) = h0 + 1 := IntWalk.i64_in _ (by omega)
        have hth := HV.out.thaw ((m - 1) * 2 + 1)
        clear hcell eR hmR
        by_cases htc : c ≤ h0 + 1
        · have HG := Lib.hid (HJ.out.grow HS.out.2.1 (by have := HLS.out; omega) HX.out ⟨f1, f2, f3⟩ htc)
          go_wp2_with fail
          go_quiet (fail)
          go_wp2_with fail
          go_region
          go_wp2_with fail
          have e : (R' ++ [(a0, h0)]).modify (m - 1) (fun r => (r.1, max h0 d)) = R' ++ [(a0, max h0 d)] := by
            rw [show m - 1 = R'.length by have := HMR.out; omega]
            exact modify_last _ _ _
          have h9 := (OwnP.drewN HV.out (nq + 1)).set2 (m - 1) (max h0 d)
          rw [e] at h9
          exact ⟨⟨k + 1, m, R' ++ [(a0, max h0 d)], by omega, by omega, by go_num, Lib.hid h9, Lib.hid ((HW.out.drewN' _).setCell (p := ⟨g, (m - 1) * 2 + 1, none⟩) hg1 _), HG⟩, by simp [intOf]; omega⟩
        · have HP := Lib.hid (HJ.out.push HS.out.2.1 (by have := HLS.out; omega) HX.out ⟨f1, f2, f3⟩ (fun r hr => by
            have := (last_most HJ.out.1 r hr).2; omega))
          have htc' : h0 + 1 < c := by omega
          go_wp2_with fail
          go_quiet (fail)
          go_wp2_with (at_builtin; refine wpList_pushP rfl (.tmp 49) (.tmp 54) rfl w1.heap.size _ _ _ _ _ _ (by rfl) (HV.out.drewN _) _ (by rfl) rfl (by omega) hz ?_
                       intro g1 c1 w2 hp1
                       have HP1 := Lib.hid hp1; clear hp1)
          exact ⟨⟨k + 1, m + 1, _, by omega, by omega, by go_num, Lib.hid HP1.out.own, Lib.hid (HP1.out.below (HW.out.drewN' _) (Nat.le_refl _) hz), HP⟩, by simp [intOf]; omega⟩
    · go_wp2_with fail
      go_ret
      have hd := HJ.out.done (by have := HLS.out; omega) HS.out
      subst hd
      exact ⟨_, rfl, (HV.out.more hz1).cast HV.out.len.symm rfl, HB.out.trans (HW.out.mono hz1)⟩

end Go.Proofs.YtalgnnidhnhciaaGreatDoor

namespace Go.Proofs.YtalgnnidhnhciaaGreatDoor
open Go Go.RowKit
set_option linter.unusedVariables false

theorem ror_any {w : World} {v u : Value} {n m : Nat} {a b : List (Int × Int)} (h : ReadsP w v n a) (h' : ReadsP w u m b) (hn : n + m ≤ 100000000) :
    Calls Tryz.prog 62 #[v, u] w (Tells w (orL a b)) := by
  have H := Lib.hid h; have H' := Lib.hid h'; clear h h'
  have O0 := Lib.hid (OwnP.empty w)
  go_enter Tryz.func62, Tryz.ntmps62
  go_wp2_with (first
    | (at_builtin; refine wpList_concatP rfl (.tmp 5) (.tmp 6) rfl w.heap.size _ 0 [] (by rfl) O0.out _ n a (by rfl) (H.out.alloc _) (by omega) (by simp) ?_
       intro v4 w4 h1 h2 _ _
       have HO4 := Lib.hid h1
       have HB4 := Lib.hid (((Below.refl w.heap.size w).alloc (Nat.le_refl _) _).trans h2)
       have hz4 := HB4.out.size
       clear h1 h2)
    | (at_builtin; refine wpList_concatP rfl (.tmp 7) (.tmp 8) rfl w.heap.size v4 (0 + n) ([] ++ a) (by rfl) HO4.out _ m b (by rfl) (H'.out.below HB4.out) (by omega) hz4 ?_
       intro v5 w5 h1 h2 _ _
       have HO5 := Lib.hid h1
       have HB5 := Lib.hid (HB4.out.trans h2)
       clear h1 h2))
  refine (rnorm_any HO5.out.reads (by omega)).mono ?_
  rintro e w6 ht
  have HTT := Lib.hid (ht.more HB5.out); clear ht
  obtain ⟨v3, rfl, h3, h4⟩ := HTT.out
  have H3 := Lib.hid h3; have H4 := Lib.hid h4; clear h3 h4
  go_wp2_with fail
  go_ret
  exact ⟨_, rfl, by simpa [orL] using H3.out, H4.out⟩

/-- What the document's Not gathers: what lies ahead of each range, some of it empty. -/
def rgaps : Int → List (Int × Int) → List (Int × Int)
  | at_, [] => [(at_, 1114111)]
  | at_, r :: l => (at_, r.1 - 1) :: rgaps (r.2 + 1) l
theorem rgaps_cons (f : Int) (x y : Int) (l : List (Int × Int)) : rgaps f ((x, y) :: l) = (f, x - 1) :: rgaps (y + 1) l := rfl
theorem rgaps_norm (l : List (Int × Int)) : ∀ (lo at_ : Int), RtFrom lo l → at_ ≤ lo → ∀ n, inS (rgaps at_ l) n ↔ inS (gaps at_ l) n := by
  induction l with
  | nil =>
    intro lo at_ _ _ n
    unfold rgaps gaps
    split
    · exact Iff.rfl
    · rw [inS_one]; exact ⟨fun h => by omega, fun h => absurd h (inS_nil n)⟩
  | cons r l ih =>
    intro lo at_ h hle n
    obtain ⟨h1, h2, h3, h4⟩ := h
    have := ih (r.2 + 2) (r.2 + 1) h4 (by omega) n
    unfold rgaps gaps
    rw [inS_cons, this]
    split
    · rw [inS_cons]
    · exact ⟨fun h => by rcases h with h | h; omega; exact h, fun h => .inr h⟩
theorem rgaps_not {l : List (Int × Int)} (h : Rt l) : normL (rgaps 0 l) = notL l := by
  refine canon (normL_rt _) (notL_rt h) fun n => ?_
  rw [normL_in, rgaps_norm l 0 0 h (Int.le_refl _)]
  exact ⟨fun g => g.1, fun g => ⟨g, by have := (notL_rt h).num g; exact this⟩⟩
set_option maxHeartbeats 2000000 in
theorem rnot_any {w : World} {v : Value} {n : Nat} {l : List (Int × Int)} (h : ReadsP w v n l) (hr : Rt l) :
    Calls Tryz.prog 16 #[v] w (Tells w (notL l)) := by
  have h0 := h
  obtain ⟨a, cap, rfl, hc, hm, hl⟩ := h.form
  have hn : n ≤ 557056 := by rw [← hl]; exact hr.short
  have H0 := Lib.hid h0; clear h h0
  have HL := Lib.hid hl; clear hl
  have HR := Lib.hid hr; clear hr
  go_enter Tryz.func16, Tryz.ntmps16
  go_wp2_with fail
  go_loopw [3, 4, 5] (fun s f i wr => ∃ (k : Nat) (G : List (Int × Int)) (at_ : Int), k ≤ n ∧ i = .int .i64 k ∧ f = .int .i64 at_ ∧ 0 ≤ at_ ∧ at_ ≤ 1114112 ∧ Hid (rgaps 0 l = G ++ rgaps at_ (l.drop k)) ∧ Hid (OwnP wr w.heap.size s k G) ∧ Hid (Below w.heap.size w wr)) (fun _ _ i _ => n - (intOf i).toNat)
  case atStart => exact ⟨0, [], 0, Nat.zero_le _, rfl, rfl, by omega, by omega, Lib.hid rfl, Lib.hid (OwnP.nil _ _), Lib.hid (Below.refl _ _)⟩
  case round =>
    obtain ⟨k, G, at_, hk, rfl, rfl, hf0, hf1, hG, HV, HB⟩ := hrel
    have hz := HB.out.size
    by_cases hlt : k < n
    · have hrd := H0.out.below HB.out
      obtain ⟨b, off, rfl, hbl, c1, c2⟩ := H0.out.at k hlt
      have c1w := c1; have c2w := c2
      have c1 := (HB.out.cell (p := ⟨b, off + k * 2, none⟩) hbl).trans c1
      have c2 := (HB.out.cell (p := ⟨b, off + k * 2 + 1, none⟩) hbl).trans c2
      have hat := HR.out.atD k (by rw [HL.out]; exact hlt)
      have HD := Lib.hid (drop_at l k (by rw [HL.out]; exact hlt))
      clear hrd c1w c2w
      have i0 : (0 : Int) ≤ (k : Int) := Int.natCast_nonneg _
      have i1 : (k : Int) < (n : Int) := by omega
      generalize l.getD k (0, 0) = r at *
      obtain ⟨x, y⟩ := r
      simp only at c1 c2 hat
      obtain ⟨p1, p2, p3⟩ := hat
      go_wp2_with (at_builtin; refine wpList_pushP rfl (.tmp 12) (.tmp 21) rfl w.heap.size _ _ _ _ _ _ (by rfl) HV.out _ (by rfl) rfl (by omega) hz ?_
                   intro g1 c1' w2 hp1
                   have HP1 := Lib.hid hp1
                   have q2 := hp1.cell c2 (fun e => by have := (HV.out.lt _ e.symm).1; omega)
                   clear hp1)
      exact ⟨⟨k + 1, G ++ [(at_, x - 1)], y + 1, by omega, by go_num, rfl, by omega, by omega, Lib.hid (by rw [hG.out, HD.out, rgaps_cons]; simp), Lib.hid HP1.out.own, Lib.hid (HP1.out.below HB.out (Nat.le_refl _) hz)⟩, by simp [intOf]; omega⟩
    · have e : rgaps at_ (l.drop k) = [(at_, 1114111)] := by rw [List.drop_of_length_le (by have := HL.out; omega)]; rfl
      have HE := Lib.hid (show rgaps 0 l = G ++ [(at_, 1114111)] by rw [hG.out, e]); clear e
      go_wp2_with (at_builtin; refine wpList_pushP rfl (.tmp 29) (.tmp 32) rfl w.heap.size _ _ _ _ _ _ (by rfl) HV.out _ (by rfl) rfl (by omega) hz ?_
                   intro g1 c1 w2 hp1
                   have HP1 := Lib.hid hp1; clear hp1)
      have HBB := Lib.hid (HP1.out.below HB.out (Nat.le_refl _) hz)
      refine (rnorm_any HP1.out.own.reads (by omega)).mono ?_
      rintro e w6 ht
      have HTT := Lib.hid (ht.more HBB.out); clear ht
      obtain ⟨v3, rfl, h3, h4⟩ := HTT.out
      have H3 := Lib.hid h3; have H4 := Lib.hid h4; clear h3 h4
      go_wp2_with fail
      go_ret
      have ef : normL (G ++ [(at_, 1114111)]) = notL l := by rw [← HE.out, rgaps_not HR.out]
      rw [ef] at H3
      exact ⟨_, rfl, H3.out, H4.out⟩

theorem Rt.short2 {a b : List (Int × Int)} {n m : Nat} (ha : Rt a) (hb : Rt b) (hn : a.length = n) (hm : b.length = m) : n + m ≤ 100000000 := by
  have := ha.short; have := hb.short; omega
theorem rand_any {w : World} {v u : Value} {n m : Nat} {a b : List (Int × Int)} (h : ReadsP w v n a) (h' : ReadsP w u m b) (ha : Rt a) (hb : Rt b) :
    Calls Tryz.prog 63 #[v, u] w (Tells w (andL a b)) := by
  have H := Lib.hid h; have H' := Lib.hid h'; have HA := Lib.hid ha; have HB := Lib.hid hb; clear h h' ha hb
  go_enter Tryz.func63, Tryz.ntmps63
  go_wp2_with fail
  refine (rnot_any H.out HA.out).mono ?_
  rintro e w1 ⟨v1, rfl, h1, h2⟩
  have O1 := Lib.hid h1; have B1 := Lib.hid h2; clear h1 h2
  go_wp2_with fail
  refine (rnot_any (H'.out.below B1.out) HB.out).mono ?_
  rintro e w2 ⟨v2, rfl, h1, h2⟩
  have O2 := Lib.hid h1
  have O1' := Lib.hid (O1.out.below_top h2)
  have B2 := Lib.hid (B1.out.trans (h2.mono B1.out.size)); clear h1 h2
  go_wp2_with fail
  refine (ror_any O1'.out.reads O2.out.reads ((notL_rt HA.out).short2 (notL_rt HB.out) rfl rfl)).mono ?_
  rintro e w3 ht
  have HT3 := Lib.hid (ht.more B2.out); clear ht
  obtain ⟨v3, rfl, h1, h2⟩ := HT3.out
  have O3 := Lib.hid h1; have B3 := Lib.hid h2; clear h1 h2
  go_wp2_with fail
  refine (rnot_any O3.out.reads (orL_rt _ _)).mono ?_
  rintro e w4 ht
  have HT4 := Lib.hid (ht.more B3.out); clear ht
  obtain ⟨v4, rfl, h1, h2⟩ := HT4.out
  have O4 := Lib.hid h1; have B4 := Lib.hid h2; clear h1 h2
  go_wp2_with fail
  go_ret
  exact ⟨_, rfl, O4.out, B4.out⟩

theorem rless_any {w : World} {v u : Value} {n m : Nat} {a b : List (Int × Int)} (h : ReadsP w v n a) (h' : ReadsP w u m b) (ha : Rt a) (hb : Rt b) :
    Calls Tryz.prog 64 #[v, u] w (Tells w (lessL a b)) := by
  have H := Lib.hid h; have H' := Lib.hid h'; have HA := Lib.hid ha; have HB := Lib.hid hb; clear h h' ha hb
  go_enter Tryz.func64, Tryz.ntmps64
  go_wp2_with fail
  refine (rnot_any H'.out HB.out).mono ?_
  rintro e w1 ⟨v1, rfl, h1, h2⟩
  have O1 := Lib.hid h1; have B1 := Lib.hid h2; clear h1 h2
  go_wp2_with fail
  refine (rand_any (H.out.below B1.out) O1.out.reads HA.out (notL_rt HB.out)).mono ?_
  rintro e w4 ht
  have HT4 := Lib.hid (ht.more B1.out); clear ht
  obtain ⟨v4, rfl, h1, h2⟩ := HT4.out
  have O4 := Lib.hid h1; have B4 := Lib.hid h2; clear h1 h2
  go_wp2_with fail
  go_ret
  exact ⟨_, rfl, O4.out, B4.out⟩

end Go.Proofs.YtalgnnidhnhciaaGreatDoor

namespace Go.Proofs.YtalgnnidhnhciaaGreatDoor
open Go Go.RowKit

set_option maxHeartbeats 1000000 in
theorem same_any {w : World} {v u : Value} {n : Nat} {l : List (Int × Int)} (h : ReadsP w v n l) (h' : ReadsP w u n l) :
    Calls Tryz.prog 14 #[v, u] w fun e w' => e = .returned (.bool true) ∧ Below w.heap.size w w' := by
  have h0 := h; have h0' := h'
  obtain ⟨a, cap, rfl, hc, hm, hl⟩ := h.form
  obtain ⟨a', cap', rfl, hc', hm', _⟩ := h'.form
  have H0 := Lib.hid h0; have H0' := Lib.hid h0'; clear h h0 h' h0' hl
  go_enter Tryz.func14, Tryz.ntmps14
  go_wp2_with fail
  go_loopw [5] (fun i wr => ∃ (k m : Nat), k ≤ n ∧ i = .int .i64 k ∧ wr = w.drewN m) (fun i _ => n - (intOf i).toNat)
  case atStart => exact ⟨0, 0, Nat.zero_le _, rfl, rfl⟩
  case round =>
    obtain ⟨k, m, hk, rfl, rfl⟩ := hrel
    by_cases hlt : k < n
    · obtain ⟨b, off, rfl, hbl, c1, c2⟩ := H0.out.at k hlt
      obtain ⟨b', off', rfl, hbl', c1', c2'⟩ := H0'.out.at k hlt
      have i0 : (0 : Int) ≤ (k : Int) := Int.natCast_nonneg _
      have i1 : (k : Int) < (n : Int) := by omega
      generalize (l.getD k (0, 0)).1 = x at *
      generalize (l.getD k (0, 0)).2 = y at *
      go_wp2_with fail
      go_quiet (fail)
      go_wp2_with fail
      all_goals exact ⟨⟨k + 1, _, by omega, by go_num, rfl⟩, by simp [intOf]; omega⟩
    · go_wp2
      go_ret
      exact ⟨rfl, ⟨rfl, rfl, rfl, Nat.le_refl _, fun _ _ => rfl⟩⟩

end Go.Proofs.YtalgnnidhnhciaaGreatDoor
