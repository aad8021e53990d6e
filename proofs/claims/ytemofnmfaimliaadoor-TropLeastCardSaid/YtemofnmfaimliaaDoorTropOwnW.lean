/- The law TropOwn returns true, whatever its numbers. -/
import Derived.Test.YtemofnmfaimliaaDoorTropR
import Derived.Test.YtemofnmfaimliaaDoorIsRow
namespace Go.Proofs.YtemofnmfaimliaaDoor
open Go.RowKit

/-- The costs of the first k numbers. -/
def costs (z : List Int) (k : Nat) : List Int := (z.take k).map cost
theorem costs_succ (z : List Int) (k : Nat) (h : k < z.length) : costs z (k + 1) = costs z k ++ [cost (z.getD k 0)] := by
  unfold costs; rw [take_snoc z k h, List.map_append]; rfl
theorem ints_snoc (l : List Int) (x : Int) : (l ++ [x]).map (Value.int .i64) = l.map (Value.int .i64) ++ [.int .i64 x] := by simp

set_option maxHeartbeats 1000000 in
theorem own_walk (a0 : Option Addr) (len0 cap0 : Nat) (z0 : List Int) (w : World) (w0 : IsRow .i64 w a0 len0 cap0 z0) (ht : Tab w) :
    Calls Tryd.prog 9 #[.slice a0 len0 cap0] w fun e w' => e = .returned (.bool true) ∧ Below w.heap.size w w' := by
  obtain ⟨i0, hi, hz0, hz1, hz2⟩ := info_parts info_int
  have hle := w0.len_le
  have HROW := Lib.hid w0; have HT := Lib.hid ht; clear w0 ht
  go_enter Tryd.func9, Tryd.ntmps9
  go_wp2_with fail
  refine (known_any _ HT.out).mono ?_
  rintro e w1 ⟨rfl, hb1⟩
  have HB1 := Lib.hid hb1; clear hb1
  go_wp2_with fail
  go_loopw [3, 4, 5] (fun v u i wr => ∃ k : Nat, k ≤ len0 ∧ k ≤ 20 ∧ i = .int .i64 k ∧ wr.ownsRow w.heap.size 3 1 v k ((costs z0 k).map (Value.int .i64)) ∧ wr.ownsRow w.heap.size 3 1 u k ((costs z0 k).map (Value.int .i64)) ∧ Apart v u ∧ Below w.heap.size w wr) (fun _ _ i _ => len0 - (intOf i).toNat)
  case atStart => exact ⟨0, Nat.zero_le _, by omega, rfl, World.ownsRow_nil _ _ _ _, World.ownsRow_nil _ _ _ _, Apart.nil, HB1.out⟩
  case round =>
    obtain ⟨k, hk, hk20, rfl, hv, hu, hap, hB⟩ := hrel
    by_cases hlt : k < len0
    · by_cases h20 : k < 20
      · obtain ⟨b, off, rfl, hbs, hc, hwf⟩ := HROW.out.at k hlt
        have hx : wr.cell? ⟨b, off + k, none⟩ = some (.int .i64 (z0.getD k 0)) := by rw [(bcell hB).1 _ _ hbs]; exact hc k hlt
        have WX := Lib.hid (hwf k hlt)
        have HCS := Lib.hid (costs_succ z0 k (by omega))
        have HV := Lib.hid hv; have HU := Lib.hid hu; have HAP := Lib.hid hap; have HB := Lib.hid hB
        have HH := Lib.hid hi; have HH0 := Lib.hid hz0; have HH1 := Lib.hid hz1; have HH2 := Lib.hid hz2
        clear hc hwf hv hu hap hB hi hz0 hz1 hz2
        generalize z0.getD k 0 = x at *
        have k0 : (0 : Int) ≤ (k : Int) := Int.natCast_nonneg _
        have k1 : (k : Int) < (len0 : Int) := by omega
        have hbz : b < wr.heap.size := Nat.lt_of_lt_of_le hbs HB.out.size
        have hneV : some b ≠ u3.ownBlock := fun q => by have := (HV.out.lt b q.symm).1; omega
        have hneU : some b ≠ u4.ownBlock := fun q => by have := (HU.out.lt b q.symm).1; omega
        have hsz := HB.out.size
        have HVA := Lib.hid ((HV.out.alloc (.cells #[.int .i64 (cost x)] 3)).drew)
        have HUA := Lib.hid ((HU.out.alloc (.cells #[.int .i64 (cost x)] 3)).drew)
        go_wp2_with fail
        go_region_held3 (fun w' => w'.cell? ⟨b, off + k, none⟩ = some (.int .i64 x) ∧ w.heap.size ≤ w'.heap.size)
          (first
            | exact ⟨hx, hsz⟩
            | exact Keeps.drew ⟨hx, hsz⟩
            | exact Keeps.drew (Keeps.alloc hbs ⟨hx, hsz⟩ _)
            | (refine Keeps.grown ?_ hgrow2 hneU; assumption)
            | (refine Keeps.grown ?_ hgrow1 hneV; assumption)
            | (refine Keeps.alloc hbs ?_ _; assumption)
            | assumption)
          (first
            | (go_at_call 11; refine (cost_any x _ WX.out).mono ?_; rintro e w' ⟨rfl, rfl⟩)
            | (refine step_append_lies _ (by rfl) _ _ _ (by rfl) w.heap.size 3 i0 _ 1 8 Tryd.underlying26 HH.out HH0.out HH1.out HH2.out rfl (by omega) u3 k ((costs z0 k).map (Value.int .i64)) (by rfl) HVA.out ⟨wr.heap.size, 0, none⟩ 1 1 [.int .i64 (cost x)] (by rfl) (by rfl) (World.news_of_block (cs := #[.int .i64 (cost x)]) (t := 3) (fr := (0, 0)) (heap_alloc_new wr _)) (by simp [Value.oneCell']) (by omega) (by unfold maxLen; omega) (by omega) (by simp; omega) (wr.heap.size + 1) (by simp) ?_
               intro g1 cap1 w2 hown1 hgrow1 hat1 hlt1
               have HU2 := Lib.hid (apart_lies (N := k + 1) (cap := cap1) HAP.out HUA.out hgrow1 hat1 (by simp)))
            | (refine step_append_lies _ (by rfl) _ _ _ (by rfl) w.heap.size 3 i0 _ 1 8 Tryd.underlying26 HH.out HH0.out HH1.out HH2.out rfl (by omega) u4 k ((costs z0 k).map (Value.int .i64)) (by rfl) (HU2.out.1.alloc _) ⟨w2.heap.size, 0, none⟩ 1 1 [.int .i64 (cost x)] (by rfl) (by rfl) (World.news_of_block (cs := #[.int .i64 (cost x)]) (t := 3) (fr := (0, 0)) (heap_alloc_new w2 _)) (by simp [Value.oneCell']) (by omega) (by unfold maxLen; omega) (by omega) (by have := hgrow1.size; simp at this; simp; omega) (w2.heap.size + 1) (by simp) ?_
               intro g2 cap2 w3 hown2 hgrow2 hat2 hlt2))
        have hfin := apart_lies (N := k + 1) (cap := cap2) HU2.out.2.symm (hown1.alloc (.cells #[.int .i64 (cost x)] 3)) hgrow2 hat2 (by simp)
        have hB3 : Below w.heap.size w w3 := (((((HB.out.alloc HB.out.size (.cells #[.int .i64 (cost x)] 3)).drew).grown hgrow1 (by simp; omega) (fun q hq => (HV.out.lt q hq).1)).alloc (by have := hgrow1.size; simp at this; omega) (.cells #[.int .i64 (cost x)] 3))).grown hgrow2 (by have := hgrow1.size; simp at this; simp; omega) (fun q hq => (HU.out.lt q hq).1)
        rw [← ints_snoc, ← HCS.out] at hown2
        have hown3 := hfin.1
        rw [← ints_snoc, ← HCS.out] at hown3
        have HF1 := Lib.hid hown3; have HF2 := Lib.hid hown2; have HF3 := Lib.hid hfin.2; have HF4 := Lib.hid hB3
        clear hfin hown1 hown2 hown3 hgrow1 hgrow2 hat1 hat2 hB3 HU2 hneV hneU hlt1 hlt2
        go_wp2_with fail
        exact ⟨⟨k + 1, by omega, by omega, by go_num, HF1.out, HF2.out, HF3.out.symm, HF4.out⟩, by simp [intOf]; omega⟩
      · have hd : decide ((k : Int) < 20) = false := by simp; omega
        have HV := Lib.hid hv; have HU := Lib.hid hu; have HB := Lib.hid hB; clear hv hu hap hB hi hz0 hz1 hz2
        go_wp2_with fail
        refine (min_own HV.out (by omega)).mono ?_; rintro e w' ⟨rfl, rfl⟩
        go_wp2_with fail
        refine (min_own HV.out (by omega)).mono ?_; rintro e w' ⟨rfl, rfl⟩
        generalize least (costs z0 k) = q at *
        go_wp2_with fail
        refine (ints_same HV.out HU.out (by omega)).mono ?_; rintro e w4 ⟨rfl, hb4⟩
        have HB4 := Lib.hid (HB.out.trans (hb4.mono HB.out.size)); clear hb4
        go_wp2_with fail
        go_ret
        exact ⟨rfl, HB4.out⟩
    · have hd : decide ((k : Int) < (len0 : Int)) = false := by simp; omega
      have HV := Lib.hid hv; have HU := Lib.hid hu; have HB := Lib.hid hB; clear hv hu hap hB hi hz0 hz1 hz2
      go_wp2_with fail
      refine (min_own HV.out (by omega)).mono ?_; rintro e w' ⟨rfl, rfl⟩
      go_wp2_with fail
      refine (min_own HV.out (by omega)).mono ?_; rintro e w' ⟨rfl, rfl⟩
      generalize least (costs z0 k) = q at *
      go_wp2_with fail
      refine (ints_same HV.out HU.out (by omega)).mono ?_; rintro e w4 ⟨rfl, hb4⟩
      have HB4 := Lib.hid (HB.out.trans (hb4.mono HB.out.size)); clear hb4
      go_wp2_with fail
      go_ret
      exact ⟨rfl, HB4.out⟩

end Go.Proofs.YtemofnmfaimliaaDoor
