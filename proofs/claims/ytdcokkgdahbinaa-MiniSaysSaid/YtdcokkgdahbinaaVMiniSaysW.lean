/- MiniSays -/
import Derived.Test.YtdcokkgdahbinaaVMiniMa
import Derived.Test.YtdcokkgdahbinaaVMiniMi
set_option linter.unusedVariables false
set_option linter.unusedSimpArgs false
set_option maxRecDepth 100000
set_option maxHeartbeats 8000000
namespace Go.Proofs.Ytdcokkgdahbinaa
open Go Go.RowKit Go.Proofs
theorem backS_quo {α : Type} {T : List (List Nat)} {k r : Nat} {g : Nat -> α} {f : Nat -> Nat} (h : MachF T k g f r) {t : List Nat} (ht : ∀ a ∈ t, a < k) (l : List Nat) (hl : ∀ a ∈ l, a ∈ t) : runN (quoN T (EF f)) 0 l = ofN T (EF f) (runN T 0 l) := by
 have := quo_run h.rect (EF.eqv f) h.step l 0 met_zero (fun a ha => ht a (hl a ha))
 rw [of_zero (EF.eqv f)] at this
 exact this
theorem brun_quo {T : List (List Nat)} {k r : Nat} {O t : List Nat} {f : Nat -> Nat} (h : MachF T k (fun x => O.getD x 0) f r) (ht : ∀ a ∈ t, a < k) : brunL (quoN T (EF f)) (quoO T f O) t = brunL T O t := by
 unfold brunL
 refine rowZ_eq fun x hx => ?_
 have hm : ∀ a ∈ (t.drop x).reverse, a ∈ t := fun a ha => List.mem_of_mem_drop (List.mem_reverse.1 ha)
 have e : backS (quoN T (EF f)) t x = ofN T (EF f) (backS T t x) := backS_quo h ht _ hm
 have hmet : backS T t x ∈ metN T := run_met h.rect _ 0 met_zero (fun a ha => ht a (hm a ha))
 rw [e, quoO_g T f O (by rw [h.len, <- h.len]; exact of_lt h.rect (EF.eqv f) h.step hmet), quoG_of h hmet]
theorem frun_quo {T : List (List Nat)} {k r : Nat} {E : List (List V3)} {t p : List Nat} {f : Nat -> Nat} (h : MachF T k (fun x => E.getD x []) f r) (ht : ∀ a ∈ t, a < k) (n : Nat) : frunL (quoN T (EF f)) (quoE T f E) t p n = frunL T E t p n := by
 unfold frunL
 refine List.map_congr_left fun x hx => ?_
 unfold frunV
 have hm : ∀ a ∈ t.take x, a ∈ t := fun a ha => List.mem_of_mem_take ha
 have e : fwdS (quoN T (EF f)) t x = ofN T (EF f) (fwdS T t x) := backS_quo h ht _ hm
 have hmet : fwdS T t x ∈ metN T := run_met h.rect _ 0 met_zero (fun a ha => ht a (hm a ha))
 rw [e, quoE_at T f E (of_lt h.rect (EF.eqv f) h.step hmet), quoG_of h hmet]
def modL (z : Int) (l : List Int) (i : Nat) : List Nat := (List.range i).map fun j => (l.getD j 0 % z).toNat
theorem modL_len (z : Int) (l : List Int) (i : Nat) : (modL z l i).length = i := by simp [modL]
theorem modL_succ (z : Int) (l : List Int) (i : Nat) : modL z l (i + 1) = modL z l i ++ [(l.getD i 0 % z).toNat] := by unfold modL; rw [List.range_succ, List.map_append]; rfl
theorem modL_lt {z : Nat} (hz : 0 < z) (l : List Int) (i : Nat) : ∀ a ∈ modL (z : Int) l i, a < z := by
 intro a ha
 obtain ⟨j, -, rfl⟩ := List.mem_map.1 ha
 have h1 := Int.emod_nonneg (l.getD j 0) (show (z : Int) ≠ 0 by omega)
 have h2 := Int.emod_lt_of_pos (l.getD j 0) (show (0 : Int) < z by omega)
 omega
def labL (l : List Int) (i : Nat) : List Nat := (List.range i).map fun j => ((if j < l.length then l.getD j 0 else (j : Int)) % 2).toNat
theorem labL_len (l : List Int) (i : Nat) : (labL l i).length = i := by simp [labL]
theorem labL_succ (l : List Int) (i : Nat) : labL l (i + 1) = labL l i ++ [((if i < l.length then l.getD i 0 else (i : Int)) % 2).toNat] := by unfold labL; rw [List.range_succ, List.map_append]; rfl
theorem labL_lt (l : List Int) (i : Nat) : ∀ a ∈ labL l i, a < 2 := by
 intro a ha
 obtain ⟨j, -, rfl⟩ := List.mem_map.1 ha
 omega
theorem miniSays_walk (a0 : Int) (a1 : Int) (a2 : Option Addr) (len2 cap2 : Nat) (z2 : List Int) (a3 : Option Addr) (len3 cap3 : Nat) (z3 : List Int) (a4 : Option Addr) (len4 cap4 : Nat) (z4 : List Int) (w : World) (w0 : (Lit.int .i64 a0).wf = true) (w1 : (Lit.int .i64 a1).wf = true) (w2 : IsRow .i64 w a2 len2 cap2 z2) (w3 : IsRow .i64 w a3 len3 cap3 z3) (w4 : IsRow .i64 w a4 len4 cap4 z4) :
  Calls Try.prog 4 #[.int .i64 a0, .int .i64 a1, .slice a2 len2 cap2, .slice a3 len3 cap3, .slice a4 len4 cap4] w fun e w' => e = .returned (.bool true) /\ Below w.heap.size w w' := by
  have hk := kOf_is a0; have hn := nOf_is a1; have hk9 := kOf_lt a0; have hn9 := nOf_lt a1
  obtain ⟨k, ek⟩ : ∃ k, kOf a0 = k := ⟨_, rfl⟩
  obtain ⟨n, en⟩ : ∃ n, nOf a1 = n := ⟨_, rfl⟩
  rw [ek] at hk hk9
  rw [en] at hn hn9
  clear ek en
  obtain ⟨k0, k9⟩ := hk9
  obtain ⟨n0, n9⟩ := hn9
  have hT := law_rect (z2.take len2) (k := k) (n := n) k0
  have hTl := lawT_len (z2.take len2) k n
  have hOl := lawO_len (z2.take len2) k n
  have hO2 := lawO_lt (z2.take len2) k n
  obtain ⟨T, eT⟩ : ∃ T, lawT (z2.take len2) k n = T := ⟨_, rfl⟩
  obtain ⟨O, eO⟩ : ∃ O, lawO (z2.take len2) k n = O := ⟨_, rfl⟩
  rw [eT] at hT hTl
  rw [eO] at hOl hO2
  have RI := Lib.hid w2.readsI
  have HK := Lib.hid hk; have HN := Lib.hid hn; have HT := Lib.hid hT; have HTL := Lib.hid hTl; have HOL := Lib.hid hOl; have HO2 := Lib.hid hO2; have ET := Lib.hid eT; have EO := Lib.hid eO
  have RS := Lib.hid w3.readsI; have RL := Lib.hid w4.readsI
  clear hk hn hT hTl hOl hO2 eT eO w0 w1 w2 w3 w4
  have hE2 : ∀ i, i < k -> ((lawEs O).getD i []).length = 2 := fun i hi => lawE_two HOL.out hi
  have hEi : ∀ i, i < k -> ∀ u ∈ (lawEs O).getD i [], ∀ c, In64 (atV u c) := fun i hi => lawE_in HOL.out HO2.out hi
  have hEl : (lawEs O).length = k := by rw [lawEs_len, HOL.out]
  obtain ⟨E, eE⟩ : ∃ E, lawEs O = E := ⟨_, rfl⟩
  rw [eE] at hE2 hEi hEl
  have HE2 := Lib.hid hE2; have HEI := Lib.hid hEi; have HEL := Lib.hid hEl; have EE := Lib.hid eE
  clear hE2 hEi hEl eE
  obtain ⟨SA, sc, e, l9, l10, -⟩ := RS.out.form
  simp only [Value.slice.injEq, true_and] at e
  obtain ⟨rfl, rfl⟩ := e
  obtain ⟨LA, lc, e, l11, l12, -⟩ := RL.out.form
  simp only [Value.slice.injEq, true_and] at e
  obtain ⟨rfl, rfl⟩ := e
  go_enter Try.func4, Try.ntmps4
  go_wp2_with fail
  refine (known_any _).mono ?_
  rintro e w1 ⟨rfl, hb⟩
  replace RI := Lib.hid (RI.out.below hb)
  have BB := Lib.hid hb; have HBK := Lib.hid hb
  clear hb
  replace RS := Lib.hid (RS.out.below HBK.out)
  replace RL := Lib.hid (RL.out.below HBK.out)
  go_wp2_with fail
  refine (lawB_mach RI.out a0 a1 HK.out HN.out).mono ?_
  rintro e w2 ⟨NA, nc, OA, oc, rfl, hN, hO, l1, l2, l3, l4, hb⟩
  have RB := Lib.hid (hN)
  have RO := Lib.hid (hO)
  replace RI := Lib.hid (RI.out.below hb)
  replace RS := Lib.hid (RS.out.below hb)
  replace RL := Lib.hid (RL.out.below hb)
  replace BB := Lib.hid (BB.out.trans (hb.mono BB.out.size))
  rw [ET.out] at RB
  rw [EO.out] at RO
  clear hN hO hb
  go_wp2_with fail
  refine (lawF_mach RI.out a0 a1 HK.out HN.out).mono ?_
  rintro e w3 ⟨NF, nf, OF, of, rfl, hN, hO, l5, l6, l7, l8, hb⟩
  have RF := Lib.hid (hN)
  have RFE := Lib.hid (hO)
  replace RS := Lib.hid (RS.out.below hb)
  replace RL := Lib.hid (RL.out.below hb)
  replace RB := Lib.hid (RB.out.below hb)
  replace RO := Lib.hid (RO.out.below hb)
  replace BB := Lib.hid (BB.out.trans (hb.mono BB.out.size))
  rw [ET.out] at RF
  rw [EO.out, EE.out] at RFE
  clear hN hO hb RI HBK
  obtain ⟨W5, hW5⟩ : ∃ W, (w3.alloc (.cells #[.slice NA k nc, .slice OA k oc] 26)).alloc (.cells #[.slice NF k nf, .slice OF k of] 30) = W := ⟨_, rfl⟩
  have hb : Below w3.heap.size w3 W5 := by rw [<- hW5]; exact ((Below.refl _ _).alloc (Nat.le_refl _) _).alloc (by simp) _
  have hx11 : Blk W5 w3.heap.size 26 #[.slice NA k nc, .slice OA k oc] := by rw [<- hW5]; exact (Blk.new _ _ _).alloc _
  have hx12 : Blk W5 (w3.heap.size + 1) 30 #[.slice NF k nf, .slice OF k of] := by
   rw [<- hW5]
   have := Blk.new (w3.alloc (.cells #[.slice NA k nc, .slice OA k oc] 26)) 30 #[.slice NF k nf, .slice OF k of]
   rw [World.size_alloc] at this
   exact this
  obtain ⟨b11, hb11⟩ : ∃ b, b = w3.heap.size := ⟨_, rfl⟩
  obtain ⟨b12, hb12⟩ : ∃ b, b = w3.heap.size + 1 := ⟨_, rfl⟩
  rw [<- hb11] at hx11
  rw [<- hb12] at hx12
  replace RS := Lib.hid (RS.out.below hb)
  replace RL := Lib.hid (RL.out.below hb)
  replace RB := Lib.hid (RB.out.below hb)
  replace RO := Lib.hid (RO.out.below hb)
  replace RF := Lib.hid (RF.out.below hb)
  replace RFE := Lib.hid (RFE.out.below hb)
  replace BB := Lib.hid (BB.out.trans (hb.mono BB.out.size))
  have X11 := Lib.hid hx11; have X12 := Lib.hid hx12; have HW5 := Lib.hid hW5; have HB11 := Lib.hid hb11; have HB12 := Lib.hid hb12
  clear hW5 hb hx11 hx12 hb11 hb12
  obtain ⟨g0, o0, A0, m0, q0, eA0, hm0, d0, r0, l13, l14⟩ := RB.out.at_ (i := 0) (by rw [HTL.out]; exact k0)
  subst eA0
  obtain rfl : n = m0 := by rw [hm0]; exact (HT.out.len 0 (by rw [HTL.out]; exact k0)).symm
  rw [Nat.add_zero, <- HW5.out] at d0
  clear hm0 r0
  have k1 : (0 : Int) < (k : Int) := by omega
  go_wp2_with fail
  rw [HW5.out, <- HB12.out, <- HB11.out]
  clear d0
  have n1 : (0 : Int) < (n : Int) := by omega
  have n2 : (n : Int) <= 3 := by omega
  have tsl : (z3.take len3).length = len3 := RS.out.1
  have psl : (z4.take len4).length = len4 := RL.out.1
  have HTSL := Lib.hid tsl; have HPSL := Lib.hid psl
  clear tsl psl
  obtain ⟨ts, ets⟩ : ∃ ts, z3.take len3 = ts := ⟨_, rfl⟩
  obtain ⟨ps, eps⟩ : ∃ ps, z4.take len4 = ps := ⟨_, rfl⟩
  rw [ets] at RS HTSL
  rw [eps] at RL HPSL
  clear ets eps
  go_loopw [14, 16] (fun v14 vi wr => ∃ (i : Nat) (TA : Option Addr) (tc : Nat), vi = .int .i64 (i : Int) /\ i <= len3 /\ i <= 40 /\ v14 = .slice TA i tc /\ Hid (Own wr W5.heap.size (.slice TA i tc) i (intsN (modL (n : Int) ts i))) /\ Hid (Below W5.heap.size W5 wr)) (fun _ vi _ => len3 - (intOf vi).toNat)
  case atStart => exact ⟨0, none, 0, rfl, Nat.zero_le _, Nat.zero_le _, rfl, Lib.hid (Own.nil _ _), Lib.hid (Below.refl _ _)⟩
  case round =>
   obtain ⟨i, TA, tc, rfl, hi, hi4, rfl, HO, HB⟩ := hrel
   have i0 : (0 : Int) <= (i : Int) := Int.natCast_nonneg _
   by_cases hlt : i < len3 /\ i < 40
   ·obtain ⟨hl3, hl4⟩ := hlt
    have i1 : (i : Int) < (len3 : Int) := by omega
    have i2 : (i : Int) < 40 := by omega
    have t1 : decide (i < len3) = true := by simpa using hl3
    have t2 : decide (i < 40) = true := by simpa using hl4
    obtain ⟨g1, o1, e1, -, c1⟩ := (RS.out.below HB.out).at i hl3
    subst e1
    have hsn := modL_succ (n : Int) ts i
    generalize ts.getD i 0 = y at *
    have hy0 := Int.emod_nonneg y (show (n : Int) ≠ 0 by omega)
    have hye : y % (n : Int) = (((y % (n : Int)).toNat : Nat) : Int) := by omega
    generalize (y % (n : Int)).toNat = yn at *
    have HSN := Lib.hid hsn; have HYE := Lib.hid hye
    clear hsn hye hy0
    have hbs := HB.out.size
    have hi9 : i <= 1000000000 := by omega
    have hti := HO.out.readsI.form
    obtain ⟨_, _, e, q1, q2, -⟩ := hti
    simp only [Value.slice.injEq, true_and] at e
    obtain ⟨rfl, rfl⟩ := e
    go_wp2_with fail
    refine (within_any y (n : Int) n1 (by omega) _).mono ?_
    rintro e w5 ⟨rfl, hw5⟩
    subst hw5
    rw [HYE.out]
    clear c1
    go_wp2_with (at_builtin; refine wpList_push rfl (.tmp 49) (.tmp 56) rfl W5.heap.size wr (.slice TA i tc) i (intsN (modL (n : Int) ts i)) (yn : Int) (by rfl) HO.out (by rfl) hi9 hbs ?_; intro g9 cap9 w9 hp9; have HP := Lib.hid hp9; clear hp9)
    refine ⟨⟨i + 1, _, _, by go_num, by omega, by omega, rfl, Lib.hid ?_, Lib.hid (HP.out.below HB.out (Nat.le_refl _) hbs)⟩, by simp [intOf]; omega⟩
    rw [HSN.out]
    have e : intsN (modL (n : Int) ts i ++ [yn]) = intsN (modL (n : Int) ts i) ++ [(yn : Int)] := by simp [intsN]
    rw [e]
    exact HP.out.own
   ·have hend : i = len3 \/ i = 40 := by omega
    have HTN : Hid (∀ a ∈ modL (n : Int) ts i, a < n) := Lib.hid (modL_lt n0 ts i)
    have HTLN := Lib.hid (modL_len (n : Int) ts i)
    generalize modL (n : Int) ts i = t at *
    obtain ⟨M, rfl⟩ : ∃ M, M = i := ⟨i, rfl⟩
    have ht1 : M < len3 \/ decide (M < len3) = false := by
     by_cases h : M < len3
     ·exact .inl h
     ·exact .inr (by simpa using h)
    obtain ⟨_, _, e, q1, q2, -⟩ := HO.out.readsI.form
    simp only [Value.slice.injEq, true_and] at e
    obtain ⟨rfl, rfl⟩ := e
    have RT := Lib.hid HO.out.readsI
    replace RS := Lib.hid (RS.out.below HB.out)
    replace RL := Lib.hid (RL.out.below HB.out)
    replace RB := Lib.hid (RB.out.below HB.out)
    replace RO := Lib.hid (RO.out.below HB.out)
    replace RF := Lib.hid (RF.out.below HB.out)
    replace RFE := Lib.hid (RFE.out.below HB.out)
    replace X11 := Lib.hid (Blk.below X11.out HB.out X11.out.lt)
    replace X12 := Lib.hid (Blk.below X12.out HB.out X12.out.lt)
    replace BB := Lib.hid (BB.out.trans (HB.out.mono BB.out.size))
    have t1 : (decide (M < len3) = false) \/ (decide (M < len3) = true /\ decide (M < 40) = false /\ (M : Int) < (len3 : Int) /\ ¬ (M : Int) < 40) := by
     rcases ht1 with h | h
     ·exact .inr ⟨by simpa using h, by simp; omega, by omega, by omega⟩
     ·exact .inl h
    clear ht1 hend hlt HO HB
    rcases t1 with t1 | ⟨t1, t2, t3, t4⟩
    all_goals
     go_wp2_with fail
     try clear t1
     try clear t2 t3 t4
     obtain ⟨W6, hW6⟩ : ∃ W, W = wr := ⟨_, rfl⟩
     subst hW6
     go_loopw [15, 17] (fun v15 vi wr => ∃ (i : Nat) (PA : Option Addr) (pc : Nat), vi = .int .i64 (i : Int) /\ i <= M + 1 /\ v15 = .slice PA i pc /\ Hid (Own wr W6.heap.size (.slice PA i pc) i (intsN (labL ps i))) /\ Hid (Below W6.heap.size W6 wr)) (fun _ vi _ => M + 1 - (intOf vi).toNat)
     case atStart => exact ⟨0, none, 0, rfl, Nat.zero_le _, rfl, Lib.hid (Own.nil _ _), Lib.hid (Below.refl _ _)⟩
     case round =>
      obtain ⟨i, PA, pc, rfl, hi, rfl, HO, HB⟩ := hrel
      have i0 : (0 : Int) <= (i : Int) := Int.natCast_nonneg _
      obtain ⟨_, _, e, q3, q4, -⟩ := HO.out.readsI.form
      simp only [Value.slice.injEq, true_and] at e
      obtain ⟨rfl, rfl⟩ := e
      by_cases hlt : i <= M
      ·have i1 : (i : Int) <= (M : Int) := by omega
       have t1 : decide (i <= M) = true := by simpa using hlt
       have hbs := HB.out.size
       have hi9 : i <= 1000000000 := by omega
       have hsn := labL_succ ps i
       by_cases hp : i < len4
       ·have p1 : (i : Int) < (len4 : Int) := by omega
        have p2 : decide (i < len4) = true := by simpa using hp
        obtain ⟨g1, o1, e1, -, c1⟩ := (RL.out.below HB.out).at i hp
        subst e1
        rw [if_pos (by rw [HPSL.out]; exact hp)] at hsn
        generalize ps.getD i 0 = y at *
        have hye : y % 2 = (((y % 2).toNat : Nat) : Int) := by omega
        generalize (y % 2).toNat = yn at *
        have HSN := Lib.hid hsn; have HYE := Lib.hid hye
        clear hsn hye
        go_wp2_with fail
        refine (within_any y 2 (by decide) (by decide) _).mono ?_
        rintro e w5 ⟨rfl, hw5⟩
        subst hw5
        rw [HYE.out]
        clear c1
        go_wp2_with (at_builtin; refine wpList_push rfl (.tmp 73) (.tmp 76) rfl W6.heap.size wr (.slice PA i pc) i (intsN (labL ps i)) (yn : Int) (by rfl) HO.out (by rfl) hi9 hbs ?_; intro g9 cap9 w9 hp9; have HP := Lib.hid hp9; clear hp9)
        refine ⟨⟨i + 1, _, _, by go_num, by omega, rfl, Lib.hid ?_, Lib.hid (HP.out.below HB.out (Nat.le_refl _) hbs)⟩, by simp [intOf]; omega⟩
        rw [HSN.out]
        have e : intsN (labL ps i ++ [yn]) = intsN (labL ps i) ++ [(yn : Int)] := by simp [intsN]
        rw [e]
        exact HP.out.own
       ·have p2 : decide (i < len4) = false := by simpa using hp
        rw [if_neg (by rw [HPSL.out]; exact hp)] at hsn
        have hye : (i : Int) % 2 = ((((i : Int) % 2).toNat : Nat) : Int) := by omega
        generalize ((i : Int) % 2).toNat = yn at *
        have HSN := Lib.hid hsn; have HYE := Lib.hid hye
        clear hsn hye
        go_wp2_with fail
        refine (within_any (i : Int) 2 (by decide) (by decide) _).mono ?_
        rintro e w5 ⟨rfl, hw5⟩
        subst hw5
        rw [HYE.out]
        go_wp2_with (at_builtin; refine wpList_push rfl (.tmp 73) (.tmp 76) rfl W6.heap.size wr (.slice PA i pc) i (intsN (labL ps i)) (yn : Int) (by rfl) HO.out (by rfl) hi9 hbs ?_; intro g9 cap9 w9 hp9; have HP := Lib.hid hp9; clear hp9)
        refine ⟨⟨i + 1, _, _, by go_num, by omega, rfl, Lib.hid ?_, Lib.hid (HP.out.below HB.out (Nat.le_refl _) hbs)⟩, by simp [intOf]; omega⟩
        rw [HSN.out]
        have e : intsN (labL ps i ++ [yn]) = intsN (labL ps i) ++ [(yn : Int)] := by simp [intsN]
        rw [e]
        exact HP.out.own
      ·have hend : M + 1 = i := by omega
       have t1 : decide (i <= M) = false := by simpa using hlt
       have RP := Lib.hid HO.out.readsI
       have HP2 : Hid (∀ a ∈ labL ps i, a < 2) := Lib.hid (labL_lt ps i)
       generalize labL ps i = p at *
       subst hend
       have t1' : ¬ (((M + 1 : Nat) : Int)) <= (M : Int) := by omega
       replace RB := Lib.hid (RB.out.below HB.out)
       replace RO := Lib.hid (RO.out.below HB.out)
       replace RF := Lib.hid (RF.out.below HB.out)
       replace RFE := Lib.hid (RFE.out.below HB.out)
       replace RT := Lib.hid (RT.out.below HB.out)
       replace X11 := Lib.hid (Blk.below X11.out HB.out X11.out.lt)
       replace X12 := Lib.hid (Blk.below X12.out HB.out X12.out.lt)
       replace BB := Lib.hid (BB.out.trans (HB.out.mono BB.out.size))
       clear hlt HO HB RL RS
       have c110 := X11.out.cell 0; have c111 := X11.out.cell 1
       simp only [List.getElem?_toArray, List.getElem?_cons_zero, List.getElem?_cons_succ] at c110 c111
       go_wp2_with fail
       clear c110 c111 t1 t1'
       refine (back_mach RB.out HTL.out HT.out RO.out (by omega) (by omega) (fun x => by have := HO2.out x; omega)).mono ?_
       rintro e w3 ⟨NC, ne, OC, oe, gn, f, r, rfl, hM, hQ, hQO, hNM, l15, l16, l17, l18, hb⟩
       have MM := Lib.hid (hM)
       have RC := Lib.hid (hQ)
       have RCO := Lib.hid (hQO)
       replace RB := Lib.hid (RB.out.below hb)
       replace RO := Lib.hid (RO.out.below hb)
       replace RF := Lib.hid (RF.out.below hb)
       replace RFE := Lib.hid (RFE.out.below hb)
       replace RT := Lib.hid (RT.out.below hb)
       replace RP := Lib.hid (RP.out.below hb)
       replace BB := Lib.hid (BB.out.trans (hb.mono BB.out.size))
       have hr0 := hM.pos
       have hr9 : r <= k := by have := hM.le; rw [HTL.out] at this; exact this
       replace X11 := Lib.hid (Blk.below X11.out hb X11.out.lt)
       replace X12 := Lib.hid (Blk.below X12.out hb X12.out.lt)
       clear hM hQ hQO hNM hb
       obtain ⟨b19, hb19⟩ : ∃ b, b = w3.heap.size := ⟨_, rfl⟩
       obtain ⟨V19, hV19⟩ : ∃ V, w3.alloc (.cells #[.slice NC r ne, .slice OC r oe] 26) = V := ⟨_, rfl⟩
       have hb' : Below w3.heap.size w3 V19 := by rw [<- hV19]; exact (Below.refl _ _).alloc (Nat.le_refl _) _
       have x' : Blk V19 b19 26 #[.slice NC r ne, .slice OC r oe] := by rw [<- hV19, hb19]; exact Blk.new _ _ _
       replace RB := Lib.hid (RB.out.below hb')
       replace RO := Lib.hid (RO.out.below hb')
       replace RF := Lib.hid (RF.out.below hb')
       replace RFE := Lib.hid (RFE.out.below hb')
       replace RT := Lib.hid (RT.out.below hb')
       replace RP := Lib.hid (RP.out.below hb')
       replace RC := Lib.hid (RC.out.below hb')
       replace RCO := Lib.hid (RCO.out.below hb')
       replace X11 := Lib.hid (Blk.below X11.out hb' X11.out.lt)
       replace X12 := Lib.hid (Blk.below X12.out hb' X12.out.lt)
       replace BB := Lib.hid (BB.out.trans (hb'.mono BB.out.size))
       have Xb19 := Lib.hid x'
       have HV19 := Lib.hid hV19; have Eb19 := Lib.hid hb19
       clear hb' x' hV19 hb19
       have c120 := X12.out.cell 0; have c121 := X12.out.cell 1
       simp only [List.getElem?_toArray, List.getElem?_cons_zero, List.getElem?_cons_succ] at c120 c121
       rw [<- HV19.out] at c120 c121
       go_wp2_with fail
       rw [HV19.out, <- Eb19.out]
       clear c120 c121
       refine (fwd_mach RF.out HTL.out HT.out RFE.out HEL.out HE2.out (by omega) HEI.out (by omega) (by omega)).mono ?_
       rintro e w4 ⟨NG, ng, OG, og, gm, f2, s, rfl, hM, hQ, hQO, hNM, l19, l20, l21, l22, hb⟩
       have MF := Lib.hid (hM)
       have RG := Lib.hid (hQ)
       have RGE := Lib.hid (hQO)
       replace RB := Lib.hid (RB.out.below hb)
       replace RO := Lib.hid (RO.out.below hb)
       replace RF := Lib.hid (RF.out.below hb)
       replace RFE := Lib.hid (RFE.out.below hb)
       replace RT := Lib.hid (RT.out.below hb)
       replace RP := Lib.hid (RP.out.below hb)
       replace RC := Lib.hid (RC.out.below hb)
       replace RCO := Lib.hid (RCO.out.below hb)
       replace BB := Lib.hid (BB.out.trans (hb.mono BB.out.size))
       have hs0 := hM.pos
       have hs9 : s <= k := by have := hM.le; rw [HTL.out] at this; exact this
       replace X11 := Lib.hid (Blk.below X11.out hb X11.out.lt)
       replace X12 := Lib.hid (Blk.below X12.out hb X12.out.lt)
       replace Xb19 := Lib.hid (Blk.below Xb19.out hb Xb19.out.lt)
       clear hM hQ hQO hNM hb
       obtain ⟨b21, hb21⟩ : ∃ b, b = w4.heap.size := ⟨_, rfl⟩
       obtain ⟨V21, hV21⟩ : ∃ V, w4.alloc (.cells #[.slice NG s ng, .slice OG s og] 30) = V := ⟨_, rfl⟩
       have hb' : Below w4.heap.size w4 V21 := by rw [<- hV21]; exact (Below.refl _ _).alloc (Nat.le_refl _) _
       have x' : Blk V21 b21 30 #[.slice NG s ng, .slice OG s og] := by rw [<- hV21, hb21]; exact Blk.new _ _ _
       replace RB := Lib.hid (RB.out.below hb')
       replace RO := Lib.hid (RO.out.below hb')
       replace RF := Lib.hid (RF.out.below hb')
       replace RFE := Lib.hid (RFE.out.below hb')
       replace RT := Lib.hid (RT.out.below hb')
       replace RP := Lib.hid (RP.out.below hb')
       replace RC := Lib.hid (RC.out.below hb')
       replace RCO := Lib.hid (RCO.out.below hb')
       replace RG := Lib.hid (RG.out.below hb')
       replace RGE := Lib.hid (RGE.out.below hb')
       replace X11 := Lib.hid (Blk.below X11.out hb' X11.out.lt)
       replace X12 := Lib.hid (Blk.below X12.out hb' X12.out.lt)
       replace Xb19 := Lib.hid (Blk.below Xb19.out hb' Xb19.out.lt)
       replace BB := Lib.hid (BB.out.trans (hb'.mono BB.out.size))
       have Xb21 := Lib.hid x'
       have HV21 := Lib.hid hV21; have Eb21 := Lib.hid hb21
       clear hb' x' hV21 hb21
       have c190 := Xb19.out.cell 0; have c191 := Xb19.out.cell 1; have c210 := Xb21.out.cell 0; have c211 := Xb21.out.cell 1
       simp only [List.getElem?_toArray, List.getElem?_cons_zero, List.getElem?_cons_succ] at c190 c191 c210 c211
       have HCL := Lib.hid MM.out.qlen; have HCR := Lib.hid MM.out.quo; have HGL := Lib.hid MF.out.qlen; have HGR := Lib.hid MF.out.quo
       have HGEL := Lib.hid (quoE_len T f2 E)
       rw [MF.out.len] at HGEL
       have HG2 : Hid (∀ i, i < s -> ((quoE T f2 E).getD i []).length = 2) := Lib.hid (fun i hi => by
        rw [quoE_at _ _ _ (by rw [MF.out.len]; exact hi)]
        exact quoG_ex MF.out hi (P := fun x => (E.getD x []).length = 2) (fun x hx => HE2.out x (by rw [<- HTL.out]; exact hx)))
       have HEQ1 := Lib.hid (brun_quo MM.out HTN.out)
       have HEQ2 := Lib.hid (frun_quo (p := p) MF.out HTN.out (M + 1))
       generalize quoN T (EF f) = Q at *
       generalize quoO T f O = QO at *
       generalize quoN T (EF f2) = P at *
       generalize quoE T f2 E = PE at *
       clear MM MF
       rw [<- HV21.out] at c190 c191 c210 c211
       go_wp2_with fail
       rw [HV21.out] at c190 c191 c210 c211 ⊢
       rw [<- Eb21.out]
       refine (whole_any RC.out HCL.out HCR.out (by omega) (by omega)).mono ?_
       rintro e w6 ⟨rfl, hw6⟩
       subst hw6
       go_wp2_with fail
       refine (whole_any RG.out HGL.out HGR.out (by omega) (by omega)).mono ?_
       rintro e w6 ⟨rfl, hw6⟩
       subst hw6
       go_wp2_with fail
       clear c190 c191 c210
       go_loopw [23] (fun vi wr => ∃ i : Nat, vi = .int .i64 (i : Int) /\ i <= s /\ wr = V21) (fun vi _ => s - (intOf vi).toNat)
       case atStart => exact ⟨0, rfl, Nat.zero_le _, rfl⟩
       case round =>
        obtain ⟨i, rfl, hi, hw⟩ := hrel
        subst hw
        have i0 : (0 : Int) <= (i : Int) := Int.natCast_nonneg _
        by_cases hlt : i < s
        ·have i1 : (i : Int) < (s : Int) := by omega
         have t1 : decide (i < s) = true := by simpa using hlt
         obtain ⟨g1, o1, A1, m1, c1, e1, hm1, d1, r1, l23, l24⟩ := RGE.out.at_ (i := i) (by rw [HGEL.out]; exact hlt)
         subst e1
         obtain rfl : m1 = 2 := by rw [hm1]; exact HG2.out i hlt
         clear hm1 r1
         go_wp2_with fail
         exact ⟨⟨i + 1, by go_num, by omega, by trivial⟩, by simp [intOf]; omega⟩
        ·obtain ⟨W9, hW9⟩ : ∃ W, W = wr := ⟨_, rfl⟩
         subst hW9
         have HKS : Hid (∀ W, Below W9.heap.size W9 W -> (fun W : World => W.cell? ⟨b19, 0, none⟩ = some (.slice NC r ne) /\ W.cell? ⟨b19, 1, none⟩ = some (.slice OC r oe) /\ W.cell? ⟨b11, 0, none⟩ = some (.slice (some ⟨g0, o0, none⟩) k nc) /\ W.cell? ⟨b11, 1, none⟩ = some (.slice OA k oc) /\ W.cell? ⟨b21, 0, none⟩ = some (.slice NG s ng) /\ W.cell? ⟨b21, 1, none⟩ = some (.slice OG s og) /\ W.cell? ⟨b12, 0, none⟩ = some (.slice NF k nf) /\ W.cell? ⟨b12, 1, none⟩ = some (.slice OF k of)) W) := Lib.hid (fun W hW => by
          have y0 := bel_m hW (Xb19.out.cell 0); have y1 := bel_m hW (Xb19.out.cell 1)
          have y2 := bel_m hW (X11.out.cell 0); have y3 := bel_m hW (X11.out.cell 1)
          have y4 := bel_m hW (Xb21.out.cell 0); have y5 := bel_m hW (Xb21.out.cell 1)
          have y6 := bel_m hW (X12.out.cell 0); have y7 := bel_m hW (X12.out.cell 1)
          exact ⟨y0, y1, y2, y3, y4, y5, y6, y7⟩)
         go_wp2_with fail
         clear c211
         have hb : Below W9.heap.size W9 W9.drew := (Below.refl _ _).drew
         have hS := HKS.out _ hb
         refine region_x 18 (fun W : World => W.cell? ⟨b19, 0, none⟩ = some (.slice NC r ne) /\ W.cell? ⟨b19, 1, none⟩ = some (.slice OC r oe) /\ W.cell? ⟨b11, 0, none⟩ = some (.slice (some ⟨g0, o0, none⟩) k nc) /\ W.cell? ⟨b11, 1, none⟩ = some (.slice OA k oc) /\ W.cell? ⟨b21, 0, none⟩ = some (.slice NG s ng) /\ W.cell? ⟨b21, 1, none⟩ = some (.slice OG s og) /\ W.cell? ⟨b12, 0, none⟩ = some (.slice NF k nf) /\ W.cell? ⟨b12, 1, none⟩ = some (.slice OF k of)) (by kernel_rfl) ?_
         generalize W9.drew = V0 at *
         refine tkx (i := 0) (v := ?_) hS ?_ ?_
         rotate_left
         ·rintro w' ⟨s0', s1', s2', s3', s4', s5', s6', s7'⟩
          go_simp
          try with_reducible rfl
         try simp only [Act.put, zq1, zq2, zq3, zq4, zq5, zq6]
         refine tkx (i := 1) (v := ?_) hS ?_ ?_
         rotate_left
         ·rintro w' ⟨s0', s1', s2', s3', s4', s5', s6', s7'⟩
          go_simp
          try with_reducible rfl
         try simp only [Act.put, zq1, zq2, zq3, zq4, zq5, zq6]
         refine tkx (i := 3) (v := ?_) hS ?_ ?_
         rotate_left
         ·rintro w' ⟨s0', s1', s2', s3', s4', s5', s6', s7'⟩
          go_simp
          try with_reducible rfl
         try simp only [Act.put, zq1, zq2, zq3, zq4, zq5, zq6]
         refine tkx (i := 4) (v := ?_) hS ?_ ?_
         rotate_left
         ·rintro w' ⟨s0', s1', s2', s3', s4', s5', s6', s7'⟩
          go_simp
          try with_reducible rfl
         try simp only [Act.put, zq1, zq2, zq3, zq4, zq5, zq6]
         refine anyX_g (i := 2) (by kernel_rfl) (by decide) rfl (by rfl) ?_
         intro K hK
         try simp only [zq1, zq2, zq3]
         refine wp_enterE #[.agg #[.slice NC r ne, .slice OC r oe], .slice TA M tc] Try.func25 (by kernel_rfl) (by kernel_rfl) ?_ (brun_any (RC.out.below hb) HCL.out HCR.out (RCO.out.below hb) (RT.out.below hb) HTN.out (by omega)) ?_
         ·go_simp
         rintro e V1 ⟨g1, rfl, hR1, hbn⟩
         refine ⟨_, rfl, ?_⟩
         replace hR1 := hR1.readsI
         replace hb := hb.trans (hbn.mono hb.size)
         clear hbn
         replace hS := HKS.out _ hb
         refine hK _ _ hS ?_
         clear hK
         try simp only [Act.put, zq1, zq2, zq3, zq4, zq5, zq6]
         refine anyX_g (i := 5) (by kernel_rfl) (by decide) rfl (by rfl) ?_
         intro K hK
         try simp only [zq1, zq2, zq3]
         refine wp_enterE #[.agg #[.slice (some ⟨g0, o0, none⟩) k nc, .slice OA k oc], .slice TA M tc] Try.func25 (by kernel_rfl) (by kernel_rfl) ?_ (brun_any (RB.out.below hb) HTL.out HT.out (RO.out.below hb) (RT.out.below hb) HTN.out (by omega)) ?_
         ·go_simp
         rintro e V2 ⟨g2, rfl, hR2, hbn⟩
         refine ⟨_, rfl, ?_⟩
         replace hR2 := hR2.readsI
         replace hR1 := hR1.below hbn
         replace hb := hb.trans (hbn.mono hb.size)
         clear hbn
         replace hS := HKS.out _ hb
         refine hK _ _ hS ?_
         clear hK
         try simp only [Act.put, zq1, zq2, zq3, zq4, zq5, zq6]
         refine anyX_g (i := 6) (by kernel_rfl) (by decide) rfl (by rfl) ?_
         intro K hK
         try simp only [zq1, zq2, zq3]
         rw [HEQ1.out] at hR1
         refine wp_enterE #[sl g1 (M + 1) (M + 1), sl g2 (M + 1) (M + 1)] Try.func21 (by kernel_rfl) (by kernel_rfl) ?_ (ints_true hR1 hR2) ?_
         ·go_simp
         rintro e V3 ⟨rfl, d3, rfl⟩
         refine ⟨_, rfl, ?_⟩
         replace hb := below_drewN hb d3
         replace hS := HKS.out _ hb
         clear hR1 hR2
         generalize V2.drewN d3 = V3 at *
         refine hK _ _ hS ?_
         clear hK
         try simp only [Act.put, zq1, zq2, zq3, zq4, zq5, zq6]
         refine tkx (i := 7) (v := ?_) hS ?_ ?_
         rotate_left
         ·rintro w' ⟨s0', s1', s2', s3', s4', s5', s6', s7'⟩
          go_simp
          try with_reducible rfl
         try simp only [Act.put, zq1, zq2, zq3, zq4, zq5, zq6]
         refine tkx (i := 8) (v := ?_) hS ?_ ?_
         rotate_left
         ·rintro w' ⟨s0', s1', s2', s3', s4', s5', s6', s7'⟩
          go_simp
          try with_reducible rfl
         try simp only [Act.put, zq1, zq2, zq3, zq4, zq5, zq6]
         refine tkx (i := 9) (v := ?_) hS ?_ ?_
         rotate_left
         ·rintro w' ⟨s0', s1', s2', s3', s4', s5', s6', s7'⟩
          go_simp
          try with_reducible rfl
         try simp only [Act.put, zq1, zq2, zq3, zq4, zq5, zq6]
         refine tkx (i := 10) (v := ?_) hS ?_ ?_
         rotate_left
         ·rintro w' ⟨s0', s1', s2', s3', s4', s5', s6', s7'⟩
          go_simp
          try with_reducible rfl
         try simp only [Act.put, zq1, zq2, zq3, zq4, zq5, zq6]
         refine tkx (i := 12) (v := ?_) hS ?_ ?_
         rotate_left
         ·rintro w' ⟨s0', s1', s2', s3', s4', s5', s6', s7'⟩
          go_simp
          try with_reducible rfl
         try simp only [Act.put, zq1, zq2, zq3, zq4, zq5, zq6]
         refine tkx (i := 13) (v := ?_) hS ?_ ?_
         rotate_left
         ·rintro w' ⟨s0', s1', s2', s3', s4', s5', s6', s7'⟩
          go_simp
          try with_reducible rfl
         try simp only [Act.put, zq1, zq2, zq3, zq4, zq5, zq6]
         refine tkx (i := 14) (v := ?_) hS ?_ ?_
         rotate_left
         ·rintro w' ⟨s0', s1', s2', s3', s4', s5', s6', s7'⟩
          go_simp
          try with_reducible rfl
         try simp only [Act.put, zq1, zq2, zq3, zq4, zq5, zq6]
         refine anyX_g (i := 11) (by kernel_rfl) (by decide) rfl (by rfl) ?_
         intro K hK
         try simp only [zq1, zq2, zq3]
         refine wp_enterE #[.agg #[.slice NG s ng, .slice OG s og], .slice TA M tc, .slice PA (M + 1) pc] Try.func27 (by kernel_rfl) (by kernel_rfl) ?_ (frun_any (q := 2) (RG.out.below hb) HGL.out HGR.out (RGE.out.below hb) HGEL.out HG2.out (RT.out.below hb) HTN.out (RP.out.below hb) HP2.out (Nat.le_refl _) (by omega)) ?_
         ·go_simp
         rintro e V4 ⟨A4, c4, rfl, hR1, hbn⟩
         refine ⟨_, rfl, ?_⟩
         replace hb := hb.trans (hbn.mono hb.size)
         clear hbn
         replace hS := HKS.out _ hb
         refine hK _ _ hS ?_
         clear hK
         try simp only [Act.put, zq1, zq2, zq3, zq4, zq5, zq6]
         refine anyX_g (i := 15) (by kernel_rfl) (by decide) rfl (by rfl) ?_
         intro K hK
         try simp only [zq1, zq2, zq3]
         refine wp_enterE #[.agg #[.slice NF k nf, .slice OF k of], .slice TA M tc, .slice PA (M + 1) pc] Try.func27 (by kernel_rfl) (by kernel_rfl) ?_ (frun_any (q := 2) (RF.out.below hb) HTL.out HT.out (RFE.out.below hb) HEL.out HE2.out (RT.out.below hb) HTN.out (RP.out.below hb) HP2.out (Nat.le_refl _) (by omega)) ?_
         ·go_simp
         rintro e V5 ⟨A5, c5, rfl, hR2, hbn⟩
         refine ⟨_, rfl, ?_⟩
         replace hR1 : ReadsE encV 3 V5 _ _ _ := hR1.same (fun b o x hx => bel_m hbn hx)
         replace hb := hb.trans (hbn.mono hb.size)
         clear hbn
         replace hS := HKS.out _ hb
         refine hK _ _ hS ?_
         clear hK
         try simp only [Act.put, zq1, zq2, zq3, zq4, zq5, zq6]
         refine anyX_g (i := 16) (by kernel_rfl) (by decide) rfl (by rfl) ?_
         intro K hK
         try simp only [zq1, zq2, zq3]
         rw [HEQ2.out] at hR1
         refine wp_enterE #[.slice A4 (M + 1) c4, .slice A5 (M + 1) c5] Try.func26 (by kernel_rfl) (by kernel_rfl) ?_ (vecs_true hR1 hR2) ?_
         ·go_simp
         rintro e V6 ⟨rfl, d6, rfl⟩
         refine ⟨_, rfl, ?_⟩
         replace hb := below_drewN hb d6
         replace hS := HKS.out _ hb
         clear hR1 hR2
         generalize V5.drewN d6 = V6 at *
         refine hK _ _ hS ?_
         clear hK
         try simp only [Act.put, zq1, zq2, zq3, zq4, zq5, zq6]
         refine tkx (i := 17) (v := ?_) hS ?_ ?_
         rotate_left
         ·rintro w' ⟨s0', s1', s2', s3', s4', s5', s6', s7'⟩
          go_simp
          try with_reducible rfl
         try simp only [Act.put, zq1, zq2, zq3, zq4, zq5, zq6]
         have HBZ := Lib.hid (BB.out.trans (hb.mono BB.out.size))
         clear hS hb
         refine anyX_last (by kernel_rfl) (by kernel_rfl) rfl rfl ?_
         try simp only [zq1, zq2, zq3]
         go_simp
         try apply_assumption
         go_wp2_with fail
         go_ret
         exact ⟨by simp, HBZ.out⟩
end Go.Proofs.Ytdcokkgdahbinaa
