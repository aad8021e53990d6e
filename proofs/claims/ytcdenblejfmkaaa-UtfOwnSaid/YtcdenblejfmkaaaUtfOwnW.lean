/- The law UtfOwn returns true, whatever the numbers. -/
import Derived.Test.YtcdenblejfmkaaaUtfV
import Derived.Test.YtcdenblejfmkaaaStore
import Derived.Deep.RegionLaw
namespace Go.Proofs.Ytcdenblejfmkaaa
open Go.RowKit Go.Proofs
set_option linter.unusedVariables false

/-- The first so many numbers that came in. -/
def frontOf (z : List Int) (k : Nat) : List Int := z.take k
theorem frontOf_succ (z : List Int) (k : Nat) (h : k < z.length) : frontOf z (k + 1) = frontOf z k ++ [z.getD k 0] := take_snoc z k h
theorem frontOf_len (z : List Int) (k : Nat) (h : k ≤ z.length) : (frontOf z k).length = k := by unfold frontOf; rw [List.length_take]; omega

set_option maxRecDepth 100000 in
set_option maxHeartbeats 2000000 in
theorem ownLaw_walk (a0 : Option Addr) (len0 cap0 : Nat) (z0 : List Int) (a1 : Int) (w : World) (w0 : IsRow .i64 w a0 len0 cap0 z0) (wb : (Lit.int .i64 a1).wf = true) :
    Calls Try.prog 11 #[.slice a0 len0 cap0, .int .i64 a1] w fun e w' => e = .returned (.bool true) ∧ Below w.heap.size w w' := by
  have hle := w0.len_le
  have HROW := Lib.hid w0; clear w0 wb
  go_enter Try.func11, Try.ntmps11
  go_wp2_with fail
  refine (known_any _).mono ?_
  rintro e w1 ⟨rfl, hb1⟩
  have HB1 := Lib.hid hb1; clear hb1
  go_wp2_with fail
  go_loopw [5, 6, 7] (fun v u i wr => ∃ k : Nat, k ≤ len0 ∧ k ≤ 20 ∧ i = .int .i64 k ∧ Own wr w.heap.size v k (frontOf z0 k) ∧ Own wr w.heap.size u k (frontOf z0 k) ∧ Apart v u ∧ Below w.heap.size w wr) (fun _ _ i _ => len0 - (intOf i).toNat)
  case atStart => exact ⟨0, Nat.zero_le _, by omega, rfl, Own.nil _ _, Own.nil _ _, Apart.nil, HB1.out⟩
  case round =>
    obtain ⟨k, hk, hk20, rfl, hv, hu, hap, hB⟩ := hrel
    have k0 : (0 : Int) ≤ (k : Int) := Int.natCast_nonneg _
    by_cases hgo : k < len0 ∧ k < 20
    · obtain ⟨hlt, h20⟩ := hgo
      obtain ⟨b, off, rfl, hbs, hc, hwf⟩ := HROW.out.at k hlt
      have hx : wr.cell? ⟨b, off + k, none⟩ = some (.int .i64 (z0.getD k 0)) := by rw [(bcell hB).1 _ _ hbs]; exact hc k hlt
      have HCS := Lib.hid (frontOf_succ z0 k (by omega))
      have hzz := hB.size
      have hbz : b < wr.heap.size := Nat.lt_of_lt_of_le hbs hB.size
      have hneV : some b ≠ u5.ownBlock := fun q => by have := (hv.lt b q.symm).1; omega
      have hneU : some b ≠ u6.ownBlock := fun q => by have := (hu.lt b q.symm).1; omega
      have HV := Lib.hid hv; have HU := Lib.hid hu; have HAP := Lib.hid hap; have HB := Lib.hid hB
      clear hc hwf hv hu hap hB
      generalize z0.getD k 0 = x at *
      have k1 : (k : Int) < (len0 : Int) := by omega
      have cA : ((wr.alloc (.cells #[.int .i64 x] 3)).drew).cell? ⟨wr.heap.size, 0, none⟩ = some (.int .i64 x) := by simp [go_sem]
      have cB : (((wr.alloc (.cells #[.int .i64 x] 3)).alloc (.cells #[.int .i64 x] 3)).drew).cell? ⟨wr.heap.size, 0, none⟩ = some (.int .i64 x) := by simp [go_sem]
      have cC : (((wr.alloc (.cells #[.int .i64 x] 3)).alloc (.cells #[.int .i64 x] 3)).drew).cell? ⟨wr.heap.size + 1, 0, none⟩ = some (.int .i64 x) := by simp [go_sem]
      have CA := Lib.hid cA; have CB := Lib.hid cB; have CC := Lib.hid cC
      clear cA cB cC
      have n0 : some wr.heap.size ≠ u5.ownBlock := fun q => by have := (HV.out.lt _ q.symm).2; omega
      have n1 : some (wr.heap.size + 1) ≠ u5.ownBlock := fun q => by have := (HV.out.lt _ q.symm).2; omega
      go_wp2_with fail
      go_region_law (first
          | (refine step_push_any (by rfl) (.tmp 29) (.tmp 34) (by rfl) w.heap.size u5 k (frontOf z0 k) x wr.heap.size (by rfl) (HV.out.alloc _).drew (by rfl) CA.out (by omega) (by simp; omega) ?_
             intro g1 c1 w2 hp1
             have hx2 := hp1.cell (b := b) (o := off + k) (y := .int .i64 x) (keep_alloc hx _) hneV
             have HP1 := Lib.hid hp1
             have HU2 := Lib.hid (hp1.other HAP.out (HU.out.alloc _).drew)
             have HB2 := Lib.hid (hp1.below (HB.out.alloc hzz _).drew (Nat.le_refl _) (by simp; omega))
             have hz2 := HB2.out.size
             skip
             clear hp1)
          | (refine step_push_any (by rfl) (.tmp 29) (.tmp 34) (by rfl) w.heap.size u5 k (frontOf z0 k) x wr.heap.size (by rfl) ((HV.out.alloc _).alloc _).drew (by rfl) CB.out (by omega) (by simp; omega) ?_
             intro g1 c1 w2 hp1
             have hx2 := hp1.cell (b := b) (o := off + k) (y := .int .i64 x) (keep_alloc (keep_alloc hx _) _) hneV
             have HP1 := Lib.hid hp1
             have HU2 := Lib.hid (hp1.other HAP.out ((HU.out.alloc _).alloc _).drew)
             have HB2 := Lib.hid (hp1.below ((HB.out.alloc hzz _).alloc (by simp; omega) _).drew (Nat.le_refl _) (by simp; omega))
             have hz2 := HB2.out.size
             have HC2 := Lib.hid (hp1.cell CC.out n1)
             clear hp1)
          | (refine step_push_any (by rfl) (.tmp 29) (.tmp 34) (by rfl) w.heap.size u5 k (frontOf z0 k) x (wr.heap.size + 1) (by rfl) ((HV.out.alloc _).alloc _).drew (by rfl) CC.out (by omega) (by simp; omega) ?_
             intro g1 c1 w2 hp1
             have hx2 := hp1.cell (b := b) (o := off + k) (y := .int .i64 x) (keep_alloc (keep_alloc hx _) _) hneV
             have HP1 := Lib.hid hp1
             have HU2 := Lib.hid (hp1.other HAP.out ((HU.out.alloc _).alloc _).drew)
             have HB2 := Lib.hid (hp1.below ((HB.out.alloc hzz _).alloc (by simp; omega) _).drew (Nat.le_refl _) (by simp; omega))
             have hz2 := HB2.out.size
             have HC2 := Lib.hid (hp1.cell CB.out n0)
             clear hp1)
          | (refine step_push_any (by rfl) (.tmp 36) (.tmp 41) (by rfl) w.heap.size u6 k (frontOf z0 k) x w2.heap.size (by rfl) (HU2.out.1.alloc _) (by rfl) (by simp [go_sem]) (by omega) (by simp; omega) ?_
             intro g2 c2 w3 hp2
             have HF := Lib.hid (hp2.other HU2.out.2.symm (HP1.out.own.alloc _))
             have HP2 := Lib.hid hp2.own
             have HB3 := Lib.hid (hp2.below (HB2.out.alloc hz2 _) (Nat.le_refl _) (by simp; omega))
             clear hp2)
          | (refine step_push_any (by rfl) (.tmp 36) (.tmp 41) (by rfl) w.heap.size u6 k (frontOf z0 k) x (wr.heap.size + 1) (by rfl) HU2.out.1 (by rfl) HC2.out (by omega) hz2 ?_
             intro g2 c2 w3 hp2
             have HF := Lib.hid (hp2.other HU2.out.2.symm HP1.out.own)
             have HP2 := Lib.hid hp2.own
             have HB3 := Lib.hid (hp2.below HB2.out (Nat.le_refl _) hz2)
             clear hp2)
          | (refine step_push_any (by rfl) (.tmp 36) (.tmp 41) (by rfl) w.heap.size u6 k (frontOf z0 k) x wr.heap.size (by rfl) HU2.out.1 (by rfl) HC2.out (by omega) hz2 ?_
             intro g2 c2 w3 hp2
             have HF := Lib.hid (hp2.other HU2.out.2.symm HP1.out.own)
             have HP2 := Lib.hid hp2.own
             have HB3 := Lib.hid (hp2.below HB2.out (Nat.le_refl _) hz2)
             clear hp2))
      all_goals
        go_wp2_with fail
        exact ⟨⟨k + 1, by omega, by omega, by go_num, by rw [HCS.out]; exact HF.out.1, by rw [HCS.out]; exact HP2.out, HF.out.2.symm, HB3.out⟩, by simp [intOf]; omega⟩
    · have hlen := frontOf_len z0 k (by omega)
      have HLEN := Lib.hid hlen
      have hsz := enc_size (frontOf z0 k) 20 (by omega) (by omega)
      have HSZ := Lib.hid hsz
      have HV := Lib.hid hv; have HU := Lib.hid hu; have HB := Lib.hid hB; have hzz := hB.size
      clear hv hu hap hB hlen hsz
      have hd : (k < len0 ∧ 20 ≤ k ∧ decide ((k : Int) < 20) = false) ∨ (len0 ≤ k ∧ decide ((k : Int) < (len0 : Int)) = false) := by simp; omega
      clear hgo
      generalize frontOf z0 k = L at *
      rcases hd with ⟨hd1, hd2, hd3⟩ | ⟨hd1, hd2⟩
      all_goals
        go_wp2_with fail
        refine (encode_reads HV.out.reads (by omega)).mono ?_
        rintro e w2 ⟨rfl, hb2⟩
        have HV2 := Lib.hid (HV.out.below_top hb2); have HU2 := Lib.hid (HU.out.below_top hb2); have HB2 := Lib.hid (HB.out.trans (hb2.mono hzz)); have hz2 := HB2.out.size
        clear hb2
        generalize (⟨(enc L).toArray⟩ : ByteArray) = S at *
        go_wp2_with fail
        refine (decode_any S _ HSZ.out).mono ?_
        rintro e w3 ⟨p, q, rfl, hp, hq, hap, hb3⟩
        have hsl : (scs S.data.toList).length ≤ 1000000 := Nat.le_trans (scs_length_le _) HSZ.out
        have hN : ∃ N, (scs S.data.toList).length = N := ⟨_, rfl⟩
        obtain ⟨N, hN⟩ := hN
        rw [hN] at hp hq hsl
        have hpf : ∃ ap cp l, p = .slice ap N cp ∧ (0 < N → ∃ g, ap = some ⟨g, 0, none⟩) ∧ Own w3 w2.heap.size (.slice ap N cp) N l := by
          rcases hp.form with ⟨h, h0, _⟩ | ⟨g, c, h, _⟩
          · exact ⟨none, 0, _, by rw [h, h0], fun h => by omega, by rw [h] at hp; rw [h0] at hp ⊢; exact hp⟩
          · exact ⟨_, c, _, h, fun _ => ⟨g, rfl⟩, by rw [h] at hp; exact hp⟩
        obtain ⟨ap, cp, lp, rfl, hapf, hp'⟩ := hpf
        have hqf : ∃ gq cq l, q = .slice (some ⟨gq, 0, none⟩) (N + 1) cq ∧ Own w3 w2.heap.size (.slice (some ⟨gq, 0, none⟩) (N + 1) cq) (N + 1) l := by
          obtain ⟨g, c, h, _⟩ := hq.slice (by omega)
          exact ⟨g, c, _, h, by rw [h] at hq; exact hq⟩
        obtain ⟨gq, cq, lq, rfl, hq'⟩ := hqf
        have HP := Lib.hid hp'; have HQ := Lib.hid hq'; have HAP := Lib.hid hap; have HAPF := Lib.hid hapf; have HN := Lib.hid hN; have HB3 := Lib.hid hb3
        clear hp hq hp' hq' hap hapf hN hb3
        obtain ⟨wo, hwo⟩ : ∃ wo : World, wo = wr := ⟨_, rfl⟩
        subst hwo
        go_wp2_with fail
        go_loopw [11] (fun i wr => ∃ j : Nat, j ≤ N ∧ i = .int .i64 j ∧ (∃ l, Own wr w2.heap.size (.slice ap N cp) N l) ∧ Own wr w2.heap.size (.slice (some ⟨gq, 0, none⟩) (N + 1) cq) (N + 1) lq ∧ Below w2.heap.size w2 wr) (fun i _ => N - (intOf i).toNat)
        case atStart => exact ⟨0, Nat.zero_le _, rfl, ⟨_, HP.out⟩, HQ.out, HB3.out⟩
        case round =>
          obtain ⟨j, hj, rfl, ⟨l, hP⟩, hQ, hbw⟩ := hrel
          have j0 : (0 : Int) ≤ (j : Int) := Int.natCast_nonneg _
          by_cases hjn : j < N
          · obtain ⟨g, rfl⟩ := HAPF.out (by omega)
            have hne := HAP.out.ne
            obtain ⟨g', c', he, hg1, hg2, _, hc⟩ := hP.slice (by omega)
            obtain ⟨rfl, rfl⟩ : g = g' ∧ cp = c' := by simpa using he
            have hcell := hc j hjn
            have hfz := hP.frozen j
            have hst := hP.stored j a1
            have hqst := hQ.stored_other (g := g) (j := j) hne (.int .i64 a1)
            have hbst := hbw.setCell (p := ⟨g, j, none⟩) hg1 (.int .i64 a1)
            have HST := Lib.hid hst.1; have HQST := Lib.hid hqst; have HBST := Lib.hid hbst
            have j1 : (j : Int) < (N : Int) := by omega
            clear he hc hst hqst hbst hP hQ hbw hne
            go_wp2_with fail
            exact ⟨⟨j + 1, by omega, by go_num, ⟨_, HST.out⟩, HQST.out, HBST.out⟩, by simp [intOf]; omega⟩
          · have HQ2 := Lib.hid hQ; have HBW := Lib.hid hbw
            clear hP hQ hbw
            obtain ⟨wq, hwq⟩ : ∃ wq : World, wq = wr := ⟨_, rfl⟩
            subst hwq
            go_wp2_with fail
            go_loopw [12] (fun i wr => ∃ j : Nat, j ≤ N + 1 ∧ i = .int .i64 j ∧ (∃ l, Own wr w2.heap.size (.slice (some ⟨gq, 0, none⟩) (N + 1) cq) (N + 1) l) ∧ Below w2.heap.size w2 wr) (fun i _ => N + 1 - (intOf i).toNat)
            case atStart => exact ⟨0, Nat.zero_le _, rfl, ⟨_, HQ2.out⟩, HBW.out⟩
            case round =>
              obtain ⟨m, hm, rfl, ⟨l, hQ⟩, hbw⟩ := hrel
              have m0 : (0 : Int) ≤ (m : Int) := Int.natCast_nonneg _
              by_cases hmn : m < N + 1
              · obtain ⟨g', c', he, hg1, hg2, _, hc⟩ := hQ.slice (by omega)
                obtain ⟨rfl, rfl⟩ : gq = g' ∧ cq = c' := by simpa using he
                have hcell := hc m hmn
                have hfz := hQ.frozen m
                have hst := hQ.stored m a1
                have hbst := hbw.setCell (p := ⟨gq, m, none⟩) hg1 (.int .i64 a1)
                have HST := Lib.hid hst.1; have HBST := Lib.hid hbst
                have m1 : (m : Int) < (N : Int) + 1 := by omega
                clear he hc hst hbst hQ hbw
                go_wp2_with fail
                exact ⟨⟨m + 1, by omega, by go_num, ⟨_, HST.out⟩, HBST.out⟩, by simp [intOf]; omega⟩
              · have hLv : Own wr w.heap.size u5 k L := HV2.out.below (fun g hg => (HV2.out.lt g hg).2) hbw
                have hLu : Own wr w.heap.size u6 k L := HU2.out.below (fun g hg => (HU2.out.lt g hg).2) hbw
                have HLV := Lib.hid hLv; have HLU := Lib.hid hLu
                have HBA := Lib.hid (HB2.out.trans (hbw.mono hz2)); have hza := HBA.out.size
                clear hLv hLu hQ hbw
                go_wp2_with fail
                refine (decode_any S _ HSZ.out).mono ?_
                rintro e w5 ⟨p5, q5, rfl, hp5, hq5, hap5, hb5⟩
                have HP5 := Lib.hid hp5
                have HLV5 := Lib.hid (HLV.out.below_top hb5); have HLU5 := Lib.hid (HLU.out.below_top hb5)
                have HB5 := Lib.hid (HBA.out.trans (hb5.mono hza)); have hz5 := HB5.out.size
                clear hp5 hq5 hap5 hb5
                go_wp2_with fail
                refine (refdecode_any S _ HSZ.out).mono ?_
                rintro e w6 ⟨p6, q6, rfl, hp6, hq6, hap6, hb6⟩
                have HP6 := Lib.hid hp6
                have HP56 := Lib.hid (HP5.out.below_top hb6)
                have HLV6 := Lib.hid (HLV5.out.below_top hb6); have HLU6 := Lib.hid (HLU5.out.below_top hb6)
                have HB6 := Lib.hid (HB5.out.trans (hb6.mono hz5)); have hz6 := HB6.out.size
                clear hp6 hq6 hap6 hb6
                have hle6 : (scs S.data.toList).length ≤ 1000000 := by rw [HN.out]; exact hsl
                go_wp2_with fail
                refine (ints_any HLV6.out.reads HLU6.out.reads (by omega)).mono ?_
                rintro e w7 ⟨rfl, hb7⟩
                have HR5 := Lib.hid (HP56.out.below_top hb7).reads; have HR6 := Lib.hid (HP6.out.below_top hb7).reads
                have HB7 := Lib.hid (HB6.out.trans (hb7.mono hz6)); have hz7 := HB7.out.size
                clear hb7
                go_wp2_with fail
                refine (ints_any HR5.out HR6.out (by omega)).mono ?_
                rintro e w8 ⟨rfl, hb8⟩
                have HB8 := Lib.hid (HB7.out.trans (hb8.mono hz7))
                clear hb8
                go_wp2_with fail
                go_ret
                exact ⟨rfl, HB8.out⟩

end Go.Proofs.Ytcdenblejfmkaaa
