/- The law UtfDecodes returns true, whatever the numbers and bytes. -/
import Derived.Test.YtcdenblejfmkaaaUtfW
import Derived.Deep.RegionHeld3
namespace Go.Proofs.Ytcdenblejfmkaaa
open Go.RowKit Go.Proofs
set_option linter.unusedVariables false

set_option maxRecDepth 100000 in
set_option maxHeartbeats 2000000 in
theorem decodes_walk (a0 : Option Addr) (len0 cap0 : Nat) (z0 : List Int) (a1 : Option Addr) (len1 cap1 : Nat) (z1 : List Int) (w : World) (w0 : IsRow .i64 w a0 len0 cap0 z0) (w1 : IsRow .u8 w a1 len1 cap1 z1) :
    Calls Try.prog 3 #[.slice a0 len0 cap0, .slice a1 len1 cap1] w fun e w' => e = .returned (.bool true) ∧ Below w.heap.size w w' := by
  have hle1 := w1.len_le
  have hcap := w1.cap_le
  have HROW := Lib.hid w0; have HROW1 := Lib.hid w1; clear w0 w1
  by_cases h200 : len1 ≤ 200
  · have CV := Lib.hid (fun (W : World) (h : Below w.heap.size w W) => conv_row HROW1.out (Nat.le_refl _) h)
    have htz : (strOfNums (z1.take len1)).size ≤ 1300 := by rw [strOfNums_size, List.length_take]; omega
    generalize strOfNums (z1.take len1) = T at *
    have HT := Lib.hid htz; clear htz
    go_enter Try.func3, Try.ntmps3
    go_wp2_with fail
    refine (known_any _).mono ?_
    rintro e w1 ⟨rfl, hb1⟩
    have HB1 := Lib.hid hb1; have hz1 := hb1.size; clear hb1
    go_wp2_with fail
    have hbd := HB1.out.drew
    go_region_held3 (fun w' => (convert 23 9 (.slice a1 len1 cap1)).run Try.prog w' = .ok (.string T) w')
      (first | assumption | (refine CV.out _ ?_; assumption) | (refine CV.out _ (Below.alloc ?_ ?_ _) <;> assumption))
      (first | (go_at_call 13; refine (bytes_any a0 len0 cap0 z0 a1 len1 cap1 z1 w _ hbd HROW.out HROW1.out h200).mono ?_; rintro e w2 ⟨S, rfl, hS, hb2⟩; have hb3 := hbd.trans (hb2.mono hz1); have hz3 := hb3.size))
    have c0 : (w2.alloc (.cells #[.string S, .string T] 9)).cell? ⟨w2.heap.size, 0, none⟩ = some (.string S) := by simp [go_sem]
    have c1 : (w2.alloc (.cells #[.string S, .string T] 9)).cell? ⟨w2.heap.size, 1, none⟩ = some (.string T) := by simp [go_sem]
    have hB0 : Below w.heap.size w (w2.alloc (.cells #[.string S, .string T] 9)) := hb3.alloc hz3 _
    have hgz : w2.heap.size < (w2.alloc (.cells #[.string S, .string T] 9)).heap.size := by simp
    have HB0 := Lib.hid hB0
    clear hb2 hb3 hz3 hB0 hbd hz1
    go_wp2_with fail
    generalize w2.alloc (.cells #[.string S, .string T] 9) = W0 at *
    generalize w2.heap.size = b at *
    refine wp_loop_rounds 3 ?_; rw [rounds_succ]
    go_wp2_with fail
    refine (decode_any S _ (by omega)).mono ?_
    rintro e p0 ⟨v0, u0, rfl, hv, hu, hap, hb⟩
    have HV := Lib.hid hv; have HU := Lib.hid hu
    have HBp0 := Lib.hid (HB0.out.trans (hb.mono HB0.out.size))
    have d0 : p0.cell? ⟨b, 0, none⟩ = some (.string S) := by rw [(bcell hb).1 _ _ (by omega)]; exact c0
    have hzp : W0.heap.size ≤ p0.heap.size := hb.size
    have d1' : p0.cell? ⟨b, 1, none⟩ = some (.string T) := by rw [(bcell hb).1 _ _ (by omega)]; exact c1
    clear hv hu hap hb c0 c1
    go_wp2_with fail
    refine (refdecode_any S _ (by omega)).mono ?_
    rintro e q0 ⟨v0', u0', rfl, hv, hu, hap, hb⟩
    have HR1 := Lib.hid (HV.out.reads.below hb); have HR2 := Lib.hid (HU.out.reads.below hb)
    have HR1' := Lib.hid hv.reads; have HR2' := Lib.hid hu.reads
    have HBq0 := Lib.hid (HBp0.out.trans (hb.mono HBp0.out.size))
    have hzq : p0.heap.size ≤ q0.heap.size := hb.size
    have f1 : q0.cell? ⟨b, 1, none⟩ = some (.string T) := by rw [(bcell hb).1 _ _ (by omega)]; exact d1'
    have hn0 := scs_length_le S.data.toList
    have hn0' : (scs S.data.toList).length ≤ 1300 := Nat.le_trans hn0 (show S.size ≤ 1300 from hS)
    clear hv hu hap hb d0 d1' hn0 HV HU
    go_wp2_with fail
    refine (ints_any HR1.out HR1'.out (by omega)).mono ?_
    rintro e r0 ⟨rfl, hb⟩
    have HBr0 := Lib.hid (HBq0.out.trans (hb.mono HBq0.out.size))
    have HR3 := Lib.hid (HR2.out.below hb); have HR3' := Lib.hid (HR2'.out.below hb)
    have hzr : q0.heap.size ≤ r0.heap.size := hb.size
    have g1 : r0.cell? ⟨b, 1, none⟩ = some (.string T) := by rw [(bcell hb).1 _ _ (by omega)]; exact f1
    clear hb HR1 HR1' HR2 HR2' f1
    go_wp2_with fail
    refine (ints_any HR3.out HR3'.out (by omega)).mono ?_
    rintro e W1 ⟨rfl, hb⟩
    have HB1 := Lib.hid (HBr0.out.trans (hb.mono HBr0.out.size))
    have hzw : r0.heap.size ≤ W1.heap.size := hb.size
    have c1 : W1.cell? ⟨b, 1, none⟩ = some (.string T) := by rw [(bcell hb).1 _ _ (by omega)]; exact g1
    have hgz1 : b < W1.heap.size := by omega
    clear hb HR3 HR3' g1 hzp hzq hzr hzw hgz
    go_wp2_with fail
    rw [rounds_succ]
    go_wp2_with fail
    refine (decode_any T _ (by have := HT.out; omega)).mono ?_
    rintro e p1 ⟨v1, u1, rfl, hv, hu, hap, hb⟩
    have HV := Lib.hid hv; have HU := Lib.hid hu
    have HBp1 := Lib.hid (HB1.out.trans (hb.mono HB1.out.size))
    have d1 : p1.cell? ⟨b, 1, none⟩ = some (.string T) := by rw [(bcell hb).1 _ _ (by omega)]; exact c1
    have hzp : W1.heap.size ≤ p1.heap.size := hb.size
    clear hv hu hap hb c1
    go_wp2_with fail
    refine (refdecode_any T _ (by have := HT.out; omega)).mono ?_
    rintro e q1 ⟨v1', u1', rfl, hv, hu, hap, hb⟩
    have HR1 := Lib.hid (HV.out.reads.below hb); have HR2 := Lib.hid (HU.out.reads.below hb)
    have HR1' := Lib.hid hv.reads; have HR2' := Lib.hid hu.reads
    have HBq1 := Lib.hid (HBp1.out.trans (hb.mono HBp1.out.size))
    have hzq : p1.heap.size ≤ q1.heap.size := hb.size
    have hn1 := scs_length_le T.data.toList
    have hn1' : (scs T.data.toList).length ≤ 1300 := Nat.le_trans hn1 (show T.size ≤ 1300 from HT.out)
    clear hv hu hap hb d1 hn1 HV HU
    go_wp2_with fail
    refine (ints_any HR1.out HR1'.out (by omega)).mono ?_
    rintro e r1 ⟨rfl, hb⟩
    have HBr1 := Lib.hid (HBq1.out.trans (hb.mono HBq1.out.size))
    have HR3 := Lib.hid (HR2.out.below hb); have HR3' := Lib.hid (HR2'.out.below hb)
    have hzr : q1.heap.size ≤ r1.heap.size := hb.size
    clear hb HR1 HR1' HR2 HR2'
    go_wp2_with fail
    refine (ints_any HR3.out HR3'.out (by omega)).mono ?_
    rintro e W2 ⟨rfl, hb⟩
    have HB2 := Lib.hid (HBr1.out.trans (hb.mono HBr1.out.size))
    have hzw : r1.heap.size ≤ W2.heap.size := hb.size
    clear hb HR3 HR3'
    go_wp2_with fail
    rw [rounds_succ]
    go_wp2_with fail
    go_ret
    exact ⟨rfl, HB2.out⟩
  · have h201 : 200 < len1 := by omega
    go_enter Try.func3, Try.ntmps3
    go_wp2_with fail
    refine (known_any _).mono ?_
    rintro e w1 ⟨rfl, hb1⟩
    have HB1 := Lib.hid hb1; clear hb1
    go_wp2_with fail
    go_ret
    exact ⟨rfl, HB1.out⟩

end Go.Proofs.Ytcdenblejfmkaaa
