/- The law TropLeast returns true, whatever its numbers. -/
import Derived.Test.YtemofnmfaimliaaDoorTropOwnW
namespace Go.Proofs.YtemofnmfaimliaaDoor
open Go.RowKit

/-- Costs that are dearer by as much. -/
def dearer (l : List Int) (q : Int) : List Int := l.map fun x => plus x q
theorem least_is (l : List Int) (h : ∀ x ∈ l, IsCost x) : IsCost (least l) := by
  have key : ∀ (l : List Int) (m : Int), (∀ x ∈ l, IsCost x) → IsCost m → IsCost (l.foldl (fun m n => if n < m then n else m) m) := by
    intro l
    induction l with
    | nil => intro m _ hm; exact hm
    | cons x l ih =>
      intro m hl hm
      simp only [List.foldl_cons]
      refine ih _ (fun y hy => hl y (List.mem_cons_of_mem _ hy)) ?_
      split
      · exact hl x List.mem_cons_self
      · exact hm
  exact key l _ h ⟨by omega, by omega⟩
theorem least_le (l : List Int) (x : Int) (hx : x ∈ l) : least l ≤ x := by
  have key : ∀ (l : List Int) (m : Int), (l.foldl (fun m n => if n < m then n else m) m) ≤ m := by
    intro l
    induction l with
    | nil => intro m; exact Int.le_refl _
    | cons x l ih =>
      intro m
      simp only [List.foldl_cons]
      refine Int.le_trans (ih _) ?_
      split <;> omega
  have key2 : ∀ (l : List Int) (m : Int), x ∈ l → (l.foldl (fun m n => if n < m then n else m) m) ≤ x := by
    intro l
    induction l with
    | nil => intro m h; cases h
    | cons y l ih =>
      intro m h
      simp only [List.foldl_cons]
      rcases List.mem_cons.1 h with rfl | h
      · refine Int.le_trans (key l _) ?_
        split <;> omega
      · exact ih _ h
  exact key2 l _ hx
theorem least_mem (l : List Int) (hl : l ≠ []) (h : ∀ x ∈ l, IsCost x) : least l ∈ l := by
  have key : ∀ (l : List Int) (m : Int), (l.foldl (fun m n => if n < m then n else m) m) = m ∨ (l.foldl (fun m n => if n < m then n else m) m) ∈ l := by
    intro l
    induction l with
    | nil => intro m; exact .inl rfl
    | cons x l ih =>
      intro m
      simp only [List.foldl_cons]
      rcases ih (if x < m then x else m) with e | e
      · rw [e]
        split
        · exact .inr List.mem_cons_self
        · exact .inl rfl
      · exact .inr (List.mem_cons_of_mem _ e)
  rcases key l 1152921504606846976 with e | e
  · cases l with
    | nil => exact absurd rfl hl
    | cons x l =>
      have h1 := least_le (x :: l) x List.mem_cons_self
      have h2 := (h x List.mem_cons_self).2
      have : least (x :: l) = x := by
        have e' : least (x :: l) = 1152921504606846976 := e
        omega
      rw [this]; exact List.mem_cons_self
  · exact e
theorem least_dearer (l : List Int) (q : Int) (hq : IsCost q) (h : ∀ x ∈ l, IsCost x) : least (dearer l q) = plus (least l) q := by
  have key : ∀ (l : List Int) (m : Int), IsCost m → (∀ x ∈ l, IsCost x) → (dearer l q).foldl (fun m n => if n < m then n else m) (plus m q) = plus (l.foldl (fun m n => if n < m then n else m) m) q := by
    intro l
    induction l with
    | nil => intro m _ _; rfl
    | cons x l ih =>
      intro m hm hl
      have hx := hl x List.mem_cons_self
      show (dearer l q).foldl _ (if plus x q < plus m q then plus x q else plus m q) = _
      simp only [List.foldl_cons]
      have e : (if plus x q < plus m q then plus x q else plus m q) = plus (if x < m then x else m) q := by
        unfold plus IsCost at *
        (repeat' split) <;> omega
      rw [e]
      exact ih _ (by split <;> assumption) (fun y hy => hl y (List.mem_cons_of_mem _ hy))
  have := key l 1152921504606846976 ⟨by omega, by omega⟩ h
  rw [plus_inf q hq] at this
  exact this
theorem costs_cost (z : List Int) (k : Nat) : ∀ x ∈ costs z k, IsCost x := by
  intro x hx
  unfold costs at hx
  obtain ⟨y, _, rfl⟩ := List.mem_map.1 hx
  exact cost_is y
theorem dearer_snoc (l : List Int) (q x : Int) : dearer (l ++ [x]) q = dearer l q ++ [plus x q] := by simp [dearer]

theorem own_form {w : World} {base n : Nat} {v : Value} {l : List Int} (h : w.ownsRow base 3 1 v n (l.map (Value.int .i64))) :
    l.length = n ∧ ∃ a cap, v = .slice a n cap ∧ ∀ i, i < n → ∃ g, a = some ⟨g, 0, none⟩ ∧ ∀ j, j < n → w.cell? ⟨g, j, none⟩ = some (.int .i64 (l.getD j 0)) := by
  obtain ⟨hl, ⟨rfl, rfl⟩ | ⟨g, cap, rfl, hc⟩⟩ := own_cells h
  · simp only [List.length_nil] at hl
    subst hl
    exact ⟨rfl, none, 0, rfl, fun i hi => by omega⟩
  · exact ⟨hl, _, cap, rfl, fun i hi => ⟨g, rfl, fun j hj => by have := hc j hj; rwa [Nat.zero_add] at this⟩⟩

/-- Has the law text met the least among the first j? -/
def seen (l : List Int) (n : Int) (j : Nat) : Bool := decide (l = []) || (l.take j).any (fun x => x == n)
theorem seen_succ (l : List Int) (n : Int) (j : Nat) (h : j < l.length) : seen l n (j + 1) = (seen l n j || (l.getD j 0 == n)) := by
  unfold seen
  rw [take_snoc l j h, List.any_append]
  simp [Bool.or_assoc]
theorem seen_end (l : List Int) (h : ∀ x ∈ l, IsCost x) : seen l (least l) l.length = true := by
  unfold seen
  by_cases hl : l = []
  · simp [hl]
  · have := least_mem l hl h
    simp only [List.take_length, Bool.or_eq_true, List.any_eq_true]
    exact .inr ⟨_, this, by simp⟩

set_option maxHeartbeats 1000000 in
theorem least_walk (a0 : Option Addr) (len0 cap0 : Nat) (z0 : List Int) (a1 : Int) (w : World) (w0 : IsRow .i64 w a0 len0 cap0 z0) (wq : (Lit.int .i64 a1).wf = true) (ht : Tab w) :
    Calls Tryd.prog 4 #[.slice a0 len0 cap0, .int .i64 a1] w fun e w' => e = .returned (.bool true) ∧ Below w.heap.size w w' := by
  obtain ⟨i0, hi, hz0, hz1, hz2⟩ := info_parts info_int
  have hle := w0.len_le
  have HROW := Lib.hid w0; have HT := Lib.hid ht; have WQ := Lib.hid wq; clear w0 ht wq
  go_enter Tryd.func4, Tryd.ntmps4
  go_wp2_with fail
  refine (known_any _ HT.out).mono ?_
  rintro e w1 ⟨rfl, hb1⟩
  have HB1 := Lib.hid hb1; clear hb1
  have HQ := Lib.hid (cost_is a1)
  go_wp2_with fail
  go_loopw [5, 6, 7] (fun v u i wr => ∃ k : Nat, k ≤ len0 ∧ k ≤ 20 ∧ i = .int .i64 k ∧ wr.ownsRow w.heap.size 3 1 v k ((costs z0 k).map (Value.int .i64)) ∧ wr.ownsRow w.heap.size 3 1 u k ((dearer (costs z0 k) (cost a1)).map (Value.int .i64)) ∧ Apart v u ∧ Below w.heap.size w wr) (fun _ _ i _ => len0 - (intOf i).toNat)
  case atStart => exact ⟨0, Nat.zero_le _, by omega, rfl, World.ownsRow_nil _ _ _ _, World.ownsRow_nil _ _ _ _, Apart.nil, HB1.out⟩
  case round =>
    obtain ⟨k, hk, hk20, rfl, hv, hu, hap, hB⟩ := hrel
    by_cases hlt : k < len0
    · by_cases h20 : k < 20
      · obtain ⟨b, off, rfl, hbs, hc, hwf⟩ := HROW.out.at k hlt
        have hx : wr.cell? ⟨b, off + k, none⟩ = some (.int .i64 (z0.getD k 0)) := by rw [(bcell hB).1 _ _ hbs]; exact hc k hlt
        have WX := Lib.hid (hwf k hlt)
        have HCS := Lib.hid (costs_succ z0 k (by omega))
        have HV := Lib.hid hv; have HU := Lib.hid hu; have HAP := Lib.hid hap; have HB := Lib.hid hB
        have HH := Lib.hid hi; have HH0 := Lib.hid hz0; have HH1 := Lib.hid hz1; have HH2 := Lib.hid hz2
        clear hc hwf hv hu hap hB hi hz0 hz1 hz2
        generalize z0.getD k 0 = x at *
        have k0 : (0 : Int) ≤ (k : Int) := Int.natCast_nonneg _
        have k1 : (k : Int) < (len0 : Int) := by omega
        have hbz : b < wr.heap.size := Nat.lt_of_lt_of_le hbs HB.out.size
        have hneV : some b ≠ u5.ownBlock := fun q => by have := (HV.out.lt b q.symm).1; omega
        have hsz := HB.out.size
        go_wp2_with fail
        refine (cost_any x _ WX.out).mono ?_; rintro e w' ⟨rfl, rfl⟩
        go_wp2_with (first
          | (at_builtin; refine wpList_append_lies _ rfl (.tmp 23) (.tmp 29) _ rfl w.heap.size 3 i0 _ 1 8 Tryd.underlying26 HH.out HH0.out HH1.out HH2.out rfl (by omega) u5 k ((costs z0 k).map (Value.int .i64)) (by rfl) (HV.out.alloc _) ⟨wr.heap.size, 0, none⟩ 1 1 [.int .i64 (cost x)] (by rfl) (by rfl) (World.news_of_block (cs := #[.int .i64 (cost x)]) (t := 3) (fr := (0, 0)) (heap_alloc_new wr _)) (by simp [Value.oneCell']) (by omega) (by unfold maxLen; omega) (by omega) (by simp; omega) (wr.heap.size + 1) (by simp) ?_
             intro g1 cap1 w2 hown1 hgrow1 hat1 hlt1
             have HU2 := Lib.hid (apart_lies (N := k + 1) (cap := cap1) HAP.out (HU.out.alloc _) hgrow1 hat1 (by simp))
             obtain ⟨hx2, hsz2⟩ := Keeps.grown (Keeps.alloc hbs ⟨hx, hsz⟩ _) hgrow1 hneV
             have HO1 := Lib.hid hown1
             have HB2 := Lib.hid ((HB.out.alloc HB.out.size (.cells #[.int .i64 (cost x)] 3)).grown hgrow1 (by simp; omega) (fun q hq => (HV.out.lt q hq).1))
             clear hown1 hgrow1 hat1 hlt1)
          | (go_at_call 11; (with_reducible refine (cost_any x _ WX.out).mono ?_); rintro e w' ⟨rfl, rfl⟩)
          | (go_at_call 11; (with_reducible refine (cost_any a1 _ WQ.out).mono ?_); rintro e w' ⟨rfl, rfl⟩)
          | (go_at_call 12; (with_reducible refine (add_any (cost x) (cost a1) _ (cost_is x) HQ.out).mono ?_); rintro e w' ⟨rfl, rfl⟩)
          | (at_builtin; refine wpList_append_lies _ rfl (.tmp 31) (.tmp 40) _ rfl w.heap.size 3 i0 _ 1 8 Tryd.underlying26 HH.out HH0.out HH1.out HH2.out rfl (by omega) u6 k ((dearer (costs z0 k) (cost a1)).map (Value.int .i64)) (by rfl) (HU2.out.1.alloc _) ⟨w2.heap.size, 0, none⟩ 1 1 [.int .i64 (plus (cost x) (cost a1))] (by rfl) (by rfl) (World.news_of_block (cs := #[.int .i64 (plus (cost x) (cost a1))]) (t := 3) (fr := (0, 0)) (heap_alloc_new w2 _)) (by simp [Value.oneCell']) (by omega) (by unfold maxLen; omega) (by omega) (by simp; omega) (w2.heap.size + 1) (by simp) ?_
             intro g2 cap2 w3 hown2 hgrow2 hat2 hlt2
             have hfin := apart_lies (N := k + 1) (cap := cap2) HU2.out.2.symm (HO1.out.alloc _) hgrow2 hat2 (by simp)
             have hB3 := (HB2.out.alloc HB2.out.size (.cells #[.int .i64 (plus (cost x) (cost a1))] 3)).grown hgrow2 (by simp; omega) (fun q hq => (HU.out.lt q hq).1)
             rw [← ints_snoc, ← dearer_snoc, ← HCS.out] at hown2
             have hown3 := hfin.1
             rw [← ints_snoc, ← HCS.out] at hown3
             have HF1 := Lib.hid hown3; have HF2 := Lib.hid hown2; have HF3 := Lib.hid hfin.2; have HF4 := Lib.hid hB3
             clear hfin hown2 hown3 hgrow2 hat2 hB3 hlt2))
        exact ⟨⟨k + 1, by omega, by omega, by go_num, HF1.out, HF2.out, HF3.out.symm, HF4.out⟩, by simp [intOf]; omega⟩
      · have hd : decide ((k : Int) < 20) = false := by simp; omega
        obtain ⟨hlen, av, capv, rfl, hat⟩ := own_form hv
        have HV := Lib.hid hv; have HU := Lib.hid hu; have HB := Lib.hid hB
        have HAT := Lib.hid hat; have HLEN := Lib.hid hlen
        have HC := Lib.hid (costs_cost z0 k)
        clear hv hu hap hB hi hz0 hz1 hz2 hat hlen
        have HLE := Lib.hid (least_le (costs z0 k))
        have HD := Lib.hid (least_dearer (costs z0 k) (cost a1) HQ.out HC.out)
        have HSE := Lib.hid (seen_end (costs z0 k) HC.out)
        have HNI := Lib.hid (least_is (costs z0 k) HC.out)
        have HN0 := Lib.hid (show costs z0 k = [] → least (costs z0 k) = 1152921504606846976 from fun q => by rw [q]; rfl)
        go_wp2_with fail
        refine (min_own HV.out (by omega)).mono ?_; rintro e w' ⟨rfl, rfl⟩
        have HV2 := Lib.hid (min_own HV.out (by omega)); have HR2 := Lib.hid (refleast_own HV.out (by omega)); have HU2 := Lib.hid (min_own HU.out (by omega))
        generalize hcs : costs z0 k = cs at *
        have HCSE := Lib.hid hcs; clear hcs
        generalize hnn : least cs = n at *
        have HNN := Lib.hid hnn; clear hnn
        have k0 : (0 : Int) ≤ (k : Int) := Int.natCast_nonneg _
        by_cases hk0 : k = 0
        case' pos =>
          have hs0 : seen cs n 0 = true := by
            have : cs = [] := List.eq_nil_of_length_eq_zero (by rw [HLEN.out]; exact hk0)
            unfold seen; simp [this]
          have hkz : ((k : Int) == 0) = true := by simp; exact hk0
          have hninf : (n == 1152921504606846976) = true := by
            have : cs = [] := List.eq_nil_of_length_eq_zero (by rw [HLEN.out]; exact hk0)
            simpa using HN0.out this
        case' neg =>
          have hs0 : seen cs n 0 = false := by
            have : cs ≠ [] := fun q => hk0 (by rw [← HLEN.out, q]; rfl)
            unfold seen; simp [this]
          have hkz : ((k : Int) == 0) = false := by simp; exact hk0
          have hninf : True := trivial
        all_goals
          have HS0 := Lib.hid hs0
          clear hs0 hk0
          go_wp2_with fail
          go_loop [9, 10] (fun s i => ∃ j : Nat, j ≤ k ∧ i = .int .i64 j ∧ s = .bool (seen cs n j)) (fun _ i => k - (intOf i).toNat)
          case atStart => exact ⟨0, Nat.zero_le _, rfl, by rw [HS0.out]⟩
          case round =>
            clear hkz hninf
            obtain ⟨j, hj, rfl, rfl⟩ := hrel
            by_cases hjk : j < k
            · obtain ⟨g, rfl, hcell⟩ := HAT.out j hjk
              have hx := hcell j hjk
              have HSS := Lib.hid (seen_succ cs n j (by rw [HLEN.out]; exact hjk))
              have hxm : cs.getD j 0 ∈ cs := by
                have hj2 : j < cs.length := by rw [HLEN.out]; exact hjk
                have e : cs.getD j 0 = cs[j] := by simp [List.getD, List.getElem?_eq_getElem hj2]
                rw [e]; exact List.getElem_mem _
              have hge : ¬ cs.getD j 0 < n := by have := HLE.out _ hxm; omega
              clear hcell hxm
              generalize cs.getD j 0 = x at *
              have j0 : (0 : Int) ≤ (j : Int) := Int.natCast_nonneg _
              have j1 : (j : Int) < (k : Int) := by omega
              cases hb : seen cs n j
              · cases hxn : (x == n)
                all_goals
                  have HSN : Hid (seen cs n (j + 1) = _) := Lib.hid (HSS.out.trans (by rw [hb, hxn]))
                  have HBB := Lib.hid hb; clear hb
                  go_wp2_with fail
                  exact ⟨⟨j + 1, by omega, by go_num, by rw [HSN.out]; rfl⟩, by simp [intOf]; omega⟩
              · have HSN : Hid (seen cs n (j + 1) = true) := Lib.hid (HSS.out.trans (by rw [hb]; rfl))
                have HBB := Lib.hid hb; clear hb
                go_wp2_with fail
                exact ⟨⟨j + 1, by omega, by go_num, by rw [HSN.out]⟩, by simp [intOf]; omega⟩
            · obtain rfl : j = k := by omega
              have hb : seen cs n j = true := by have := HSE.out; rw [HLEN.out] at this; exact this
              rw [hb]
              clear hb
              go_wp2_with fail
              refine (HR2.out).mono ?_; rintro e w' ⟨rfl, rfl⟩
              go_wp2_with fail
              refine (HU2.out).mono ?_; rintro e w' ⟨rfl, rfl⟩
              rw [HD.out]
              go_wp2_with fail
              refine (cost_any a1 _ WQ.out).mono ?_; rintro e w' ⟨rfl, rfl⟩
              go_wp2_with fail
              refine (add_any n (cost a1) _ HNI.out HQ.out).mono ?_; rintro e w' ⟨rfl, rfl⟩
              go_wp2_with fail
              go_ret
              exact ⟨rfl, HB.out⟩
    · have hd : decide ((k : Int) < (len0 : Int)) = false := by simp; omega
      obtain ⟨hlen, av, capv, rfl, hat⟩ := own_form hv
      have HV := Lib.hid hv; have HU := Lib.hid hu; have HB := Lib.hid hB
      have HAT := Lib.hid hat; have HLEN := Lib.hid hlen
      have HC := Lib.hid (costs_cost z0 k)
      clear hv hu hap hB hi hz0 hz1 hz2 hat hlen
      have HLE := Lib.hid (least_le (costs z0 k))
      have HD := Lib.hid (least_dearer (costs z0 k) (cost a1) HQ.out HC.out)
      have HSE := Lib.hid (seen_end (costs z0 k) HC.out)
      have HNI := Lib.hid (least_is (costs z0 k) HC.out)
      have HN0 := Lib.hid (show costs z0 k = [] → least (costs z0 k) = 1152921504606846976 from fun q => by rw [q]; rfl)
      go_wp2_with fail
      refine (min_own HV.out (by omega)).mono ?_; rintro e w' ⟨rfl, rfl⟩
      have HV2 := Lib.hid (min_own HV.out (by omega)); have HR2 := Lib.hid (refleast_own HV.out (by omega)); have HU2 := Lib.hid (min_own HU.out (by omega))
      generalize hcs : costs z0 k = cs at *
      have HCSE := Lib.hid hcs; clear hcs
      generalize hnn : least cs = n at *
      have HNN := Lib.hid hnn; clear hnn
      have k0 : (0 : Int) ≤ (k : Int) := Int.natCast_nonneg _
      by_cases hk0 : k = 0
      case' pos =>
        have hs0 : seen cs n 0 = true := by
          have : cs = [] := List.eq_nil_of_length_eq_zero (by rw [HLEN.out]; exact hk0)
          unfold seen; simp [this]
        have hkz : ((k : Int) == 0) = true := by simp; exact hk0
        have hninf : (n == 1152921504606846976) = true := by
          have : cs = [] := List.eq_nil_of_length_eq_zero (by rw [HLEN.out]; exact hk0)
          simpa using HN0.out this
      case' neg =>
        have hs0 : seen cs n 0 = false := by
          have : cs ≠ [] := fun q => hk0 (by rw [← HLEN.out, q]; rfl)
          unfold seen; simp [this]
        have hkz : ((k : Int) == 0) = false := by simp; exact hk0
        have hninf : True := trivial
      all_goals
        have HS0 := Lib.hid hs0
        clear hs0 hk0
        go_wp2_with fail
        go_loop [9, 10] (fun s i => ∃ j : Nat, j ≤ k ∧ i = .int .i64 j ∧ s = .bool (seen cs n j)) (fun _ i => k - (intOf i).toNat)
        case atStart => exact ⟨0, Nat.zero_le _, rfl, by rw [HS0.out]⟩
        case round =>
          clear hkz hninf
          obtain ⟨j, hj, rfl, rfl⟩ := hrel
          by_cases hjk : j < k
          · obtain ⟨g, rfl, hcell⟩ := HAT.out j hjk
            have hx := hcell j hjk
            have HSS := Lib.hid (seen_succ cs n j (by rw [HLEN.out]; exact hjk))
            have hxm : cs.getD j 0 ∈ cs := by
              have hj2 : j < cs.length := by rw [HLEN.out]; exact hjk
              have e : cs.getD j 0 = cs[j] := by simp [List.getD, List.getElem?_eq_getElem hj2]
              rw [e]; exact List.getElem_mem _
            have hge : ¬ cs.getD j 0 < n := by have := HLE.out _ hxm; omega
            clear hcell hxm
            generalize cs.getD j 0 = x at *
            have j0 : (0 : Int) ≤ (j : Int) := Int.natCast_nonneg _
            have j1 : (j : Int) < (k : Int) := by omega
            cases hb : seen cs n j
            · cases hxn : (x == n)
              all_goals
                have HSN : Hid (seen cs n (j + 1) = _) := Lib.hid (HSS.out.trans (by rw [hb, hxn]))
                have HBB := Lib.hid hb; clear hb
                go_wp2_with fail
                exact ⟨⟨j + 1, by omega, by go_num, by rw [HSN.out]; rfl⟩, by simp [intOf]; omega⟩
            · have HSN : Hid (seen cs n (j + 1) = true) := Lib.hid (HSS.out.trans (by rw [hb]; rfl))
              have HBB := Lib.hid hb; clear hb
              go_wp2_with fail
              exact ⟨⟨j + 1, by omega, by go_num, by rw [HSN.out]⟩, by simp [intOf]; omega⟩
          · obtain rfl : j = k := by omega
            have hb : seen cs n j = true := by have := HSE.out; rw [HLEN.out] at this; exact this
            rw [hb]
            clear hb
            go_wp2_with fail
            refine (HR2.out).mono ?_; rintro e w' ⟨rfl, rfl⟩
            go_wp2_with fail
            refine (HU2.out).mono ?_; rintro e w' ⟨rfl, rfl⟩
            rw [HD.out]
            go_wp2_with fail
            refine (cost_any a1 _ WQ.out).mono ?_; rintro e w' ⟨rfl, rfl⟩
            go_wp2_with fail
            refine (add_any n (cost a1) _ HNI.out HQ.out).mono ?_; rintro e w' ⟨rfl, rfl⟩
            go_wp2_with fail
            go_ret
            exact ⟨rfl, HB.out⟩

end Go.Proofs.YtemofnmfaimliaaDoor
