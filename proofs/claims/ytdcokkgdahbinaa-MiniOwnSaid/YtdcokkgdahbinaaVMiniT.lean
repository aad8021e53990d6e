/- groups of a machine's states. -/
import Derived.Test.YtdcokkgdahbinaaVMiniSp
set_option linter.unusedVariables false
set_option linter.unusedSimpArgs false
set_option maxRecDepth 100000
set_option maxHeartbeats 8000000
namespace Go.Proofs.Ytdcokkgdahbinaa
open Go Go.RowKit Go.Proofs
open Go.Maps (Keyed Tidy int_keyed keyOf_int_mk string_keyed)
theorem methF (a b : Value) (w : World) : (method 239 73 (.agg #[a, b]) "hyphen/mini.size").run Try.prog w = .ok (48, .agg #[a]) w := by kernel_rfl
theorem groupsS_any {w : World} {NA OA : Option Addr} {nc oc n m0 : Nat} {g : Nat -> ByteArray} (hn : n <= 1000) (hwf : ∀ x, x < n -> keyOf Try.prog 9 (.string (g x)) = some (.string (g x).data.toList))
  (hsay : ∀ W, Below w.heap.size w W -> ∀ x, x < n -> Calls Try.prog 41 #[.agg #[.slice NA n nc, .slice OA m0 oc], .int .i64 (x : Int)] W fun e w' => e = .returned (.string (g x)) /\ Below W.heap.size W w') :
  Calls Try.prog 40 #[.agg #[.slice NA n nc, .slice OA m0 oc], .func (.func 41) #[] #[]] w fun e w' => ∃ A c, e = .returned (.slice A (grpG g n).length c) /\ NextR w' (.slice A (grpG g n).length c) (grpG g n) /\ Below w.heap.size w w' := by
  have hmm := @run_makeMap Try.prog
  have hme := fun W => methF (.slice NA n nc) (.slice OA m0 oc) W
  have law := string_keyed (P := Try.prog) (k := 9) Try.underlying9
  have zi : ∀ w : World, (zeroValue 3).run Try.prog w = .ok (.int .i64 0) w := fun w => by kernel_rfl
  obtain ⟨W0, hW0⟩ : ∃ W0, (w.alloc (.cells #[.slice NA n nc, .slice OA m0 oc] 73)).alloc (.map #[] 0) = W0 := ⟨_, rfl⟩
  have hb0 : Below w.heap.size w W0 := by rw [<- hW0]; exact ((Below.refl _ _).alloc (Nat.le_refl _) _).alloc (by simp) _
  have hx0 : Blk W0 w.heap.size 73 #[.slice NA n nc, .slice OA m0 oc] := by rw [<- hW0]; exact (Blk.new _ _ _).alloc _
  have hma0 : MapAtK W0 9 (w.heap.size + 1) 0 (.map []) := by
   rw [<- hW0]
   have := World.ownsMap_made (H := Unit) (P := Try.prog) (w := w.alloc (.cells #[.slice NA n nc, .slice OA m0 oc] 73)) 9 (plainElem Try.prog 3)
   rw [World.size_alloc] at this
   exact this
  have hz0 : W0.heap.size = w.heap.size + 2 := by rw [<- hW0]; simp
  obtain ⟨nb, hnb⟩ : ∃ nb, nb = w.heap.size := ⟨_, rfl⟩
  obtain ⟨mb, hmb⟩ : ∃ mb, mb = w.heap.size + 1 := ⟨_, rfl⟩
  rw [<- hnb] at hx0
  rw [<- hmb] at hma0
  have hsz := size_any NA n nc W0
  have HW0 := Lib.hid hW0; have HB0 := Lib.hid hb0; have HX0 := Lib.hid hx0; have HMA0 := Lib.hid hma0; have HZ0 := Lib.hid hz0; have HNB := Lib.hid hnb; have HMB := Lib.hid hmb; have HSZ := Lib.hid hsz; have HWF := Lib.hid hwf; have HSAY := Lib.hid hsay
  clear hW0 hb0 hx0 hma0 hz0 hsz hwf hsay hnb hmb
  go_enter Try.func40, Try.ntmps40
  go_wp2_with fail
  rw [HW0.out]
  rw [<- HMB.out, <- HNB.out]
  refine HSZ.out.mono ?_
  rintro e w1 ⟨rfl, hb1⟩
  clear hmm hme HSZ HW0
  have HST : Hid (∃ vals, GrAt w1 w1.heap.size (.slice none 0 0) (grpG g 0).length vals (grpG g 0) /\ ∃ nn D, nn <= 0 /\ MapAtK w1 9 mb nn D /\ MapK (fun x => .string x.data.toList) D (keysG g 0) /\ Fr (fun q => q = mb) w1 w1) :=
   Lib.hid ⟨[], GrAt.nil _ _, 0, .map [], Nat.le_refl _, HMA0.out.fr (Fr.of_below (X := fun _ => False) hb1) id, MapK.nil _, Fr.refl _ _⟩
  have HBX1 := Lib.hid (Blk.below HX0.out hb1 HX0.out.lt)
  have HB1 := Lib.hid (HB0.out.trans (hb1.mono HB0.out.size))
  have hmbl : mb < w1.heap.size := by have := hb1.size; have := HZ0.out; have := HMB.out; omega
  have hnm : ¬ nb = mb := by have := HNB.out; have := HMB.out; omega
  have hmw : w.heap.size <= mb := by have := HMB.out; omega
  clear hb1 HX0 HMA0 HB0
  go_wp2_with fail
  go_loopw [5, 15] (fun vl vi wr => ∃ j : Nat, vi = .int .i64 (j : Int) /\ j <= n /\ Hid (∃ vals, GrAt wr w1.heap.size vl (grpG g j).length vals (grpG g j) /\ ∃ nn D, nn <= j /\ MapAtK wr 9 mb nn D /\ MapK (fun x => .string x.data.toList) D (keysG g j) /\ Fr (fun q => q = mb) w1 wr)) (fun _ vi _ => n - (intOf vi).toNat)
  case atStart => exact ⟨0, rfl, Nat.zero_le _, HST⟩
  case round =>
   clear HST
   obtain ⟨j, rfl, hj, HJ⟩ := hrel
   obtain ⟨vals, hgr, nn, D, hnn, hmap, hmk, hfr⟩ := HJ.out
   have j0 : (0 : Int) <= (j : Int) := Int.natCast_nonneg _
   by_cases hlt : j < n
   ·have j1 : (j : Int) < (n : Int) := by omega
    have tj : decide (j < n) = true := by simpa using hlt
    have hwr : Below w.heap.size w wr := HB1.out.trans (hfr.below HB1.out.size (fun q hq e => by omega))
    have hxb := hfr.blk HBX1.out hnm
    have b0 := hxb.cell 0; have b1 := hxb.cell 1
    simp only [List.getElem?_toArray, List.getElem?_cons_zero, List.getElem?_cons_succ] at b0 b1
    have hsay := HSAY.out wr hwr j hlt
    have HSY := Lib.hid hsay; have HGR := Lib.hid hgr; have HMAP := Lib.hid hmap; have HMK := Lib.hid hmk; have HFR := Lib.hid hfr
    have HKEY := Lib.hid (HWF.out j hlt)
    have HSTP := Lib.hid (grpH_step g j)
    have hkl := keysG_len g j
    clear hwr hxb hsay hgr hmap hmk hfr HJ
    obtain ⟨key, hkey⟩ : ∃ key, g j = key := ⟨_, rfl⟩
    have HKE := Lib.hid hkey
    rw [hkey] at HSY HKEY
    go_wp2_with fail
    refine HSY.out.mono ?_
    rintro e w2 ⟨rfl, hb2⟩
    have HGR2 := Lib.hid (HGR.out.bel hb2); have HMAP2 := Lib.hid (HMAP.out.fr (Fr.of_below (X := fun _ => False) hb2) id); have HFR2 := Lib.hid (HFR.out.trans (Fr.of_below hb2))
    clear hb2 HSY HGR HMAP HFR b0 b1
    have hrow : ∀ a, ((grpG g j).getD a []).length <= 1000 := fun a => by
     have h1 := grpG_row g j a
     have := nodup_len h1.1 h1.2
     omega
    have HROW := Lib.hid hrow
    obtain ⟨m, hm⟩ : ∃ m, (grpG g j).length = m := ⟨_, rfl⟩
    rw [hm] at HGR2
    have HM := Lib.hid hm
    have hmn : m <= 1000 := by have := grpG_len g j; omega
    have hbs : w1.heap.size <= w2.heap.size := HFR2.out.size
    have HN1 := Lib.hid hnm
    clear hrow hm
    by_cases hin : key ∈ keysG g j
    ·have h1 : Maps.has D (.string key.data.toList) = true := by rw [(HMK.out.2 key).1]; simpa using hin
     have h2 := (HMK.out.2 key).2 hin
     have hH := grpH_in HKE.out hin
     have hK1 := keysG_in HKE.out hin
     obtain ⟨a, ha⟩ : ∃ a, ixG (keysG g j) key = a := ⟨_, rfl⟩
     have hstp := HSTP.out
     rw [hH, hK1, HKE.out, ha, HM.out] at hstp
     rw [ha] at h2
     obtain ⟨ham, hst2, hst3⟩ := hstp
     have H1 := Lib.hid h1; have H2 := Lib.hid h2; have HST2 := Lib.hid hst2; have HST3 := Lib.hid hst3; have HK1 := Lib.hid hK1
     clear h1 h2 hin hH hK1 ha hst2 hst3 HSTP
     rcases HGR2.out.form with ⟨_, e0⟩ | ⟨g0, lc, hvl, hlc, hlc2⟩
     ·omega
     ·subst hvl
      obtain ⟨va, hva⟩ : ∃ va, vals.getD a undef = va := ⟨_, rfl⟩
      obtain ⟨rl, hrl⟩ : ∃ rl, ((grpG g j).getD a []).length = rl := ⟨_, rfl⟩
      have hown := HGR2.out.own a ham
      have hrln := HROW.out a
      rw [hva, hrl] at hown
      rw [hrl] at hrln
      obtain ⟨RA, rc, hvf, hrc, hrc2, -⟩ := hown.readsI.form
      subst hvf
      have ca := (HGR2.out.cellG ham).1
      rw [hva] at ca
      have hrl9 : rl <= 1000000000 := by omega
      have a0 : (0 : Int) <= (a : Int) := Int.natCast_nonneg _
      have a1 : (a : Int) < (m : Int) := by omega
      have ta : decide (a < m) = true := by simpa using ham
      have HOWN := Lib.hid hown; have HVA := Lib.hid hva; have HRL := Lib.hid hrl
      have hsep : (Value.slice RA rl rc).ownBlock ≠ some g0 := fun e => HGR2.out.sep ham g0 (by rw [hva]; exact e) rfl
      have HSEP := Lib.hid hsep
      have hblk : ∃ cs, w2.heap[g0]? = some (.cells cs 22 (0, 0)) := HGR2.out.blk
      clear hown hva hrl hsep
      go_wp2_with (first
       | (at_lookup; refine lookup_known rfl _ _ 99 rfl 9 3 .i64 law Try.underlying99 Try.underlying3 (zi _) mb nn D rfl HMAP2.out _ _ rfl HKEY.out (a : Int) H2.out ?_; rw [H1.out])
       | (at_builtin; refine wpList_push rfl (.tmp 43) (.tmp 45) rfl w1.heap.size w2 (.slice RA rl rc) rl (intsN ((grpG g j).getD a [])) (j : Int) (by rfl) HOWN.out (by rfl) hrl9 hbs ?_; intro g9 cap9 w9 hp9; have HP := Lib.hid hp9; clear hp9; have c9 := HGR2.out.cell9 ham (Fr.of_pushed HP.out) HSEP.out))
      refine ⟨⟨j + 1, by go_num, by omega, Lib.hid ⟨vals.set a (sl g9 (rl + 1) cap9), ?_, nn, D, by omega, ?_, ?_, ?_⟩⟩, by simp [intOf]; omega⟩
      ·rw [HST2.out]
       have h1 := HGR2.out.store ham HRL.out (by rw [HVA.out]; exact HP.out)
       have e1 : ((grpG g j).set a ((grpG g j).getD a [] ++ [j])).length = m := by rw [List.length_set]; exact HM.out
       rw [e1]
       exact h1
      ·have hfp := Fr.of_pushed HP.out
       have h1 := HMAP2.out.fr hfp (fun e => by have := (HOWN.out.lt mb e).1; omega)
       exact h1.fr (Fr.set_ (X := fun q => q = g0) (Fr.refl _ w9) (p := ⟨g0, a, none⟩) (.inl rfl) _) (fun e => by have := (HGR2.out.row.lt g0 rfl).1; omega)
      ·rw [HK1.out]; exact HMK.out
      ·exact (HFR2.out.then_ (Fr.of_pushed HP.out) (fun q hq e => by have := (HOWN.out.lt q e).1; omega)).set_ (p := ⟨g0, a, none⟩) (.inr (HGR2.out.row.lt g0 rfl).1) _
    ·have h1 : Maps.has D (.string key.data.toList) = false := by rw [(HMK.out.2 key).1]; simpa using hin
     have hH := grpH_new HKE.out hin
     have hK1 := keysG_new HKE.out hin
     have hidx : ixG (keysG g j ++ [key]) key = m := by rw [ixG_new hin, <- grpG_len, HM.out]
     have hmk2 := HMK.out.put (fun _ => trivial) (fun x y e => ByteArray.ext (Array.toList_inj.1 (Lit.string.inj e))) key hin
     rw [<- grpG_len, HM.out] at hmk2
     have hstp := HSTP.out
     rw [hH, hK1, HKE.out, hidx] at hstp
     obtain ⟨-, hst2, -⟩ := hstp
     have hgetm : (grpG g j ++ [[]]).getD m [] = [] := by simp [List.getD, <- HM.out]
     have H1 := Lib.hid h1; have HST2 := Lib.hid hst2; have HK1 := Lib.hid hK1; have HMK2 := Lib.hid hmk2; have HGM := Lib.hid hgetm
     have hgm1 : (keysG g j ++ [key]).length = m + 1 := by rw [List.length_append, <- grpG_len, HM.out]; rfl
     have HGM1 := Lib.hid hgm1
     have hn9 : nn < maxLen := by unfold maxLen; omega
     have hwm : (Lit.int .i64 (m : Int)).wf = true := WalkArith.wf_i64 (by omega)
     have HWM := Lib.hid hwm
     clear h1 hin hH hK1 hidx hmk2 hst2 HSTP hgetm hgm1 hwm
     obtain ⟨GA, GC, hvl, hgc1, hgc2⟩ := HGR2.out.formS
     subst hvl
     have m0' : (0 : Int) <= (m : Int) := Int.natCast_nonneg _
     have hmm9 : m <= 1000000000 := by omega
     have a1 : (m : Int) < ((m + 1 : Nat) : Int) := by omega
     have ta : decide (m < m + 1) = true := by simp
     go_wp2_with (first
      | (at_lookup; refine wpList_lookup_own_ok_int _ rfl _ _ 99 rfl 9 3 .i64 law Try.underlying99 Try.underlying3 (zi _) mb nn D rfl HMAP2.out _ _ rfl HKEY.out ?_
         intro cc hat hwc
         rw [H1.out]
         clear hat hwc)
      | (at_mapUpdate; refine wpList_mapUpdate_own _ rfl _ _ _ 99 rfl 9 3 law Try.underlying99 _ mb nn D rfl HMAP2.out hn9 _ _ _ rfl rfl HKEY.out _ [] (plainElem_int Try.underlying3 HWM.out) ?_
         intro w3 hown3 hg3
         have HMAP3 := Lib.hid hown3
         have HFR3 := Lib.hid (Fr.of_grown (X := fun q => q = mb) hg3 (fun q hq => by simpa using hq.symm))
         have HGR3 := Lib.hid (HGR2.out.fr HFR3.out (fun q hq e => by omega))
         have hbs3 : w1.heap.size <= w3.heap.size := Nat.le_trans hbs hg3.size
         clear hown3 hg3)
      | (at_builtin; refine wpList_pushE (enc := fun u : Value => [u]) rfl (.tmp 35) (.tmp 36) 24 rfl 24 _ Try.underlying24 info_row rfl (by omega) (by omega) w1.heap.size w3 (.slice GA m GC) m vals (.slice none 0 0) _ rfl rfl (by simp [Value.oneCell']) (by rfl) HGR3.out.rowE w3.heap.size (by rfl) rfl hmm9 hbs3 ?_
         intro g9 cap9 w9 hp9
         have HGR9 := Lib.hid (HGR3.out.pushE hp9)
         have HFR9 := Lib.hid (Fr.of_grown (X := fun q => w1.heap.size <= q) hp9.grow (fun q hq => (hp9.old q hq).1))
         have hbs9 : w1.heap.size <= w9.heap.size := Nat.le_trans hbs3 hp9.size
         have hcg9 := HGR9.out.cellG (Nat.lt_succ_self m)
         have eg9 := getD_push vals (.slice none 0 0) HGR3.out.lv
         rw [eg9] at hcg9
         obtain ⟨ca9, cf9⟩ := hcg9
         have HEG := Lib.hid eg9
         have hblk9 : ∃ cs, w9.heap[g9]? = some (.cells cs 22 (0, 0)) := HGR9.out.blk
         clear hp9 eg9)
      | (at_builtin; refine wpList_push rfl (.tmp 43) (.tmp 45) rfl w1.heap.size w9 (.slice none 0 0) 0 (intsN []) (j : Int) (by rfl) (Own.nil _ _) (by rfl) (by omega) hbs9 ?_
         intro g8 cap8 w8 hp8
         have HP := Lib.hid hp8
         clear hp8
         have c9 := HGR9.out.cell9 (Nat.lt_succ_self m) (Fr.of_pushed HP.out) (fun e => by cases e)))
     have hg9 := (HGR9.out.row.lt g9 rfl).1
     refine ⟨⟨j + 1, by go_num, by omega, Lib.hid ⟨(vals ++ [Value.slice none 0 0]).set m (sl g8 1 cap8), ?_, nn + 1, _, by omega, ?_, by rw [HK1.out]; exact HMK2.out, ?_⟩⟩, by simp [intOf]; omega⟩
     ·rw [HST2.out]
      have hpp : Pushed w1.heap.size w9 w8 ((vals ++ [Value.slice none 0 0]).getD m undef) g8 cap8 0 (intsN ((grpG g j ++ [[]]).getD m [])) (j : Int) := by rw [HEG.out, HGM.out]; exact HP.out
      have h1 := HGR9.out.store (Nat.lt_succ_self m) (by rw [HGM.out]; rfl) hpp
      have e1 : ((grpG g j ++ [[]]).set m ((grpG g j ++ [[]]).getD m [] ++ [j])).length = m + 1 := by rw [List.length_set, List.length_append, HM.out]; rfl
      rw [e1]
      exact h1
     ·have h1 := MapAtK.fr (HMAP3.out) HFR9.out (fun e => by omega)
      have h2 := h1.fr (Fr.of_pushed HP.out) (fun e => by cases e)
      exact h2.fr (Fr.set_ (X := fun q => q = g9) (Fr.refl _ w8) (p := ⟨g9, m, none⟩) (.inl rfl) _) (fun e => by omega)
     ·exact ((((HFR2.out.trans HFR3.out).then_ HFR9.out (fun q hq e => by omega)).then_ (Fr.of_pushed HP.out) (fun q hq e => by cases e)).set_ (p := ⟨g9, m, none⟩) (.inr hg9) _)
   ·have hjn : j = n := by omega
    subst hjn
    have hwr : Below w.heap.size w wr := HB1.out.trans (hfr.below HB1.out.size (fun q hq e => by omega))
    have HGR := Lib.hid hgr; have HWR := Lib.hid hwr
    obtain ⟨GA, GC, hvl, -, -⟩ := hgr.formS
    subst hvl
    clear hmap hmk hgr hfr hwr HJ HWF HSAY
    go_wp2_with fail
    go_ret
    exact ⟨_, _, rfl, HGR.out.next rfl, HWR.out⟩
end Go.Proofs.Ytdcokkgdahbinaa
