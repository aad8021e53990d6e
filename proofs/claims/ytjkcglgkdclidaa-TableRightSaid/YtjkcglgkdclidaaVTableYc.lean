/- The reader's isSealed. -/
import Derived.Test.YtjkcglgkdclidaaVTableZ
import Derived.Test.YtjkcglgkdclidaaVTableH
set_option linter.unusedVariables false
set_option linter.unusedSimpArgs false
set_option maxRecDepth 100000
set_option maxHeartbeats 4000000
namespace Go.Proofs.Ytjkcglgkdclidaa
open Go Go.RowKit Go.Proofs
theorem sealed_any {w : World} {b : Nat} {A : Option Addr} {n cap : Nat} {bs : List Int} {at_ : Nat} {br : Bool} (h : Cur w b A n cap bs at_ br) :
  Calls Try.prog 36 #[.pointer (some ⟨b, 0, none⟩)] w fun e w' => ∃ s, e = .returned (.bool s) /\ (s = true ↔ at_ + 8 = n /\ br = false /\ un8 ((bs.drop at_).take 8) = sumI (bs.take at_)) /\ Fr (fun q => q = b) w w' := by
  have HC := Lib.hid h
  obtain ⟨A', c', e, l1, l2, l3⟩ := h.r.form
  simp only [Value.slice.injEq, true_and] at e
  obtain ⟨rfl, rfl⟩ := e
  have hle := h.le
  have a1 : (at_ : Int) <= (cap : Int) := by omega
  have a2 : (0 : Int) <= (at_ : Int) := by omega
  have a3 : ¬ (cap : Int) < (at_ : Int) := by omega
  have a4 : ¬ cap < at_ := by omega
  have a5 : at_ <= cap := by omega
  clear h
  go_enter Try.func36, Try.ntmps36
  go_wp2_with fail
  have HC1 := Lib.hid (HC.out.below (w' := w.drew) (Below.refl _ _).drew)
  have HF1 : Hid (Fr (fun q => q = b) w w.drew) := Lib.hid (Fr.refl _ _).drew
  refine region_x 10 (fun W : World => W.cell? ⟨b, 0, none⟩ = some (.slice A n cap) /\ W.cell? ⟨b, 1, none⟩ = some (.int .i64 (at_ : Int))) (by kernel_rfl) ?_
  generalize w.drew = V0 at *
  have hS : (fun W : World => W.cell? ⟨b, 0, none⟩ = some (.slice A n cap) /\ W.cell? ⟨b, 1, none⟩ = some (.int .i64 (at_ : Int))) V0 := ⟨HC1.out.x.cell 0, HC1.out.x.cell 1⟩
  refine tkx (i := 0) (v := ?_) hS ?_ ?_
  rotate_left
  ·rintro w' ⟨s0', s1'⟩
   go_simp
   try with_reducible rfl
  try simp only [Act.put, zq1, zq2, zq3, zq4, zq5, zq6]
  refine tkx (i := 1) (v := ?_) hS ?_ ?_
  rotate_left
  ·rintro w' ⟨s0', s1'⟩
   go_simp
   try with_reducible rfl
  try simp only [Act.put, zq1, zq2, zq3, zq4, zq5, zq6]
  refine tkx (i := 2) (v := ?_) hS ?_ ?_
  rotate_left
  ·rintro w' ⟨s0', s1'⟩
   go_simp
   try with_reducible rfl
  try simp only [Act.put, zq1, zq2, zq3, zq4, zq5, zq6]
  refine tkx (i := 3) (v := ?_) hS ?_ ?_
  rotate_left
  ·rintro w' ⟨s0', s1'⟩
   go_simp
   try with_reducible rfl
  try simp only [Act.put, zq1, zq2, zq3, zq4, zq5, zq6]
  refine tkx (i := 4) (v := ?_) hS ?_ ?_
  rotate_left
  ·rintro w' ⟨s0', s1'⟩
   go_simp
   try with_reducible rfl
  try simp only [Act.put, zq1, zq2, zq3, zq4, zq5, zq6]
  refine tkx (i := 5) (v := ?_) hS ?_ ?_
  rotate_left
  ·rintro w' ⟨s0', s1'⟩
   go_simp
   try with_reducible rfl
  try simp only [Act.put, zq1, zq2, zq3, zq4, zq5, zq6]
  refine tkx (i := 6) (v := ?_) hS ?_ ?_
  rotate_left
  ·rintro w' ⟨s0', s1'⟩
   go_simp
   try with_reducible rfl
  try simp only [Act.put, zq1, zq2, zq3, zq4, zq5, zq6]
  refine tkx (i := 7) (v := ?_) hS ?_ ?_
  rotate_left
  ·rintro w' ⟨s0', s1'⟩
   go_simp
   try with_reducible rfl
  try simp only [Act.put, zq1, zq2, zq3, zq4, zq5, zq6]
  refine tkx (i := 8) (v := ?_) hS ?_ ?_
  rotate_left
  ·rintro w' ⟨s0', s1'⟩
   go_simp
   try with_reducible rfl
  try simp only [Act.put, zq1, zq2, zq3, zq4, zq5, zq6]
  refine anyX_g (i := 9) (by kernel_rfl) (by decide) rfl (by rfl) ?_
  intro K hK
  try simp only [zq1, zq2, zq3]
  refine wp_enterE #[.slice A at_ cap] Try.func23 (by kernel_rfl) (by kernel_rfl) ?_ (sum_any (HC1.out.r.pre HC1.out.le)) ?_
  ·go_simp
  rintro e V1 ⟨rfl, hV1⟩
  subst hV1
  refine ⟨_, rfl, ?_⟩
  refine hK _ _ hS ?_
  clear hK
  try simp only [Act.put, zq1, zq2, zq3, zq4, zq5, zq6]
  clear hS
  refine anyX_last (by kernel_rfl) (by kernel_rfl) rfl rfl ?_
  try simp only [zq1, zq2, zq3]
  go_simp
  try apply_assumption
  go_wp2_with fail
  replace HC1 := Lib.hid (HC1.out.below (w' := V1.drew) (Below.refl _ _).drew)
  replace HF1 := Lib.hid HF1.out.drew
  refine region_x 23 (fun W : World => W.cell? ⟨b, 0, none⟩ = some (.slice A n cap)) (by kernel_rfl) ?_
  generalize V1.drew = V2 at *
  have hS : (fun W : World => W.cell? ⟨b, 0, none⟩ = some (.slice A n cap)) V2 := HC1.out.x.cell 0
  refine tkx (i := 0) (v := ?_) hS ?_ ?_
  rotate_left
  ·rintro w' s0'
   go_simp
   try with_reducible rfl
  try simp only [Act.put, zq1, zq2, zq3, zq4, zq5, zq6]
  refine tkx (i := 2) (v := ?_) hS ?_ ?_
  rotate_left
  ·rintro w' s0'
   go_simp
   try with_reducible rfl
  try simp only [Act.put, zq1, zq2, zq3, zq4, zq5, zq6]
  refine anyX_g (i := 1) (by kernel_rfl) (by decide) rfl (by rfl) ?_
  intro K hK
  try simp only [zq1, zq2, zq3]
  refine wp_enterE #[.pointer (some ⟨b, 0, none⟩)] Try.func64 (by kernel_rfl) (by kernel_rfl) ?_ (ctake_any HC1.out) ?_
  ·go_simp
  rintro e V3 ⟨hy, hno, hf⟩
  have HF3 := Lib.hid (HF1.out.trans hf)
  obtain ⟨X, hX⟩ : ∃ X, un8 ((bs.drop at_).take 8) = X := ⟨_, rfl⟩
  obtain ⟨Y, hY⟩ : ∃ Y, sumI (bs.take at_) = Y := ⟨_, rfl⟩
  rw [hX] at hy
  simp only [hX, hY]
  have HX := Lib.hid hX; have HY := Lib.hid hY
  clear hX hY hf
  by_cases h8 : at_ + 8 <= n
  ·obtain ⟨rfl, hc⟩ := hy h8
   obtain ⟨c8, hc8⟩ : ∃ c, at_ + 8 = c := ⟨_, rfl⟩
   rw [hc8] at hc h8
   have HC3 := Lib.hid hc
   replace hS : (fun W : World => W.cell? ⟨b, 0, none⟩ = some (.slice A n cap)) V3 := hc.x.cell 0
   have k1 := hc.x.cell 1
   have k2 : V3.cell? ⟨b, 2, none⟩ = some (.bool br) := hc.x.cell 2
   clear hy hno hc
   refine ⟨_, rfl, ?_⟩
   refine hK _ _ hS ?_
   clear hK
   try simp only [Act.put, zq1, zq2, zq3, zq4, zq5, zq6]
   have k3 : V3.cell? ⟨b, 1, none⟩ = some (.int .i64 (c8 : Int)) := k1
   clear k1
   by_cases q : X = Y
   ·have q1 : (X == Y) = true := by simpa using q
    obtain ⟨z, hz⟩ : ∃ z, br = z := ⟨_, rfl⟩
    rw [hz] at k2
    cases z
    ·refine tkx (i := 3) (v := ?_) hS ?_ ?_
     rotate_left
     ·rintro w' s0'
      go_simp
      try with_reducible rfl
     try simp only [Act.put, zq1, zq2, zq3, zq4, zq5, zq6]
     refine tkx (i := 4) (v := ?_) hS ?_ ?_
     rotate_left
     ·rintro w' s0'
      go_simp
      try with_reducible rfl
     try simp only [Act.put, zq1, zq2, zq3, zq4, zq5, zq6]
     refine tkx (i := 5) (v := ?_) hS ?_ ?_
     rotate_left
     ·rintro w' s0'
      go_simp
      try with_reducible rfl
     try simp only [Act.put, zq1, zq2, zq3, zq4, zq5, zq6]
     refine tkx (i := 6) (v := ?_) hS ?_ ?_
     rotate_left
     ·rintro w' s0'
      go_simp
      try with_reducible rfl
     try simp only [Act.put, zq1, zq2, zq3, zq4, zq5, zq6]
     refine tkx (i := 7) (v := ?_) hS ?_ ?_
     rotate_left
     ·rintro w' s0'
      go_simp
      try with_reducible rfl
     try simp only [Act.put, zq1, zq2, zq3, zq4, zq5, zq6]
     refine anyX_g (i := 8) (by kernel_rfl) (by decide) rfl (by rfl) ?_
     intro K hK
     try simp only [zq1, zq2, zq3]
     go_simp
     refine hK _ _ hS ?_
     clear hK
     try simp only [Act.put, zq1, zq2, zq3, zq4, zq5, zq6]
     refine tkx (i := 9) (v := ?_) hS ?_ ?_
     rotate_left
     ·rintro w' s0'
      go_simp
      try with_reducible rfl
     try simp only [Act.put, zq1, zq2, zq3, zq4, zq5, zq6]
     refine tkx (i := 10) (v := ?_) hS ?_ ?_
     rotate_left
     ·rintro w' s0'
      go_simp
      try with_reducible rfl
     try simp only [Act.put, zq1, zq2, zq3, zq4, zq5, zq6]
     refine tkx (i := 11) (v := ?_) hS ?_ ?_
     rotate_left
     ·rintro w' s0'
      go_simp
      try with_reducible rfl
     try simp only [Act.put, zq1, zq2, zq3, zq4, zq5, zq6]
     refine tkx (i := 12) (v := ?_) hS ?_ ?_
     rotate_left
     ·rintro w' s0'
      go_simp
      try with_reducible rfl
     try simp only [Act.put, zq1, zq2, zq3, zq4, zq5, zq6]
     refine tkx (i := 13) (v := ?_) hS ?_ ?_
     rotate_left
     ·rintro w' s0'
      go_simp
      try with_reducible rfl
     try simp only [Act.put, zq1, zq2, zq3, zq4, zq5, zq6]
     refine tkx (i := 14) (v := ?_) hS ?_ ?_
     rotate_left
     ·rintro w' s0'
      go_simp
      try with_reducible rfl
     try simp only [Act.put, zq1, zq2, zq3, zq4, zq5, zq6]
     refine tkx (i := 16) (v := ?_) hS ?_ ?_
     rotate_left
     ·rintro w' s0'
      go_simp
      try with_reducible rfl
     try simp only [Act.put, zq1, zq2, zq3, zq4, zq5, zq6]
     refine tkx (i := 17) (v := ?_) hS ?_ ?_
     rotate_left
     ·rintro w' s0'
      go_simp
      try with_reducible rfl
     try simp only [Act.put, zq1, zq2, zq3, zq4, zq5, zq6]
     refine tkx (i := 18) (v := ?_) hS ?_ ?_
     rotate_left
     ·rintro w' s0'
      go_simp
      try with_reducible rfl
     try simp only [Act.put, zq1, zq2, zq3, zq4, zq5, zq6]
     refine tkx (i := 19) (v := ?_) hS ?_ ?_
     rotate_left
     ·rintro w' s0'
      go_simp
      try with_reducible rfl
     try simp only [Act.put, zq1, zq2, zq3, zq4, zq5, zq6]
     refine tkx (i := 20) (v := ?_) hS ?_ ?_
     rotate_left
     ·rintro w' s0'
      go_simp
      try with_reducible rfl
     try simp only [Act.put, zq1, zq2, zq3, zq4, zq5, zq6]
     refine anyX_g (i := 15) (by kernel_rfl) (by decide) rfl (by rfl) ?_
     intro K hK
     try simp only [zq1, zq2, zq3]
     go_simp
     refine hK _ _ hS ?_
     clear hK
     try simp only [Act.put, zq1, zq2, zq3, zq4, zq5, zq6]
     by_cases u : c8 = n
     ·have u1 : ((c8 : Int) == (n : Int)) = true := by simp; omega
      have u2 : (c8 == n) = true := by simpa using u
      refine tkx (i := 21) (v := ?_) hS ?_ ?_
      rotate_left
      ·rintro w' s0'
       go_simp
       try with_reducible rfl
      try simp only [Act.put, zq1, zq2, zq3, zq4, zq5, zq6]
      refine tkx (i := 22) (v := ?_) hS ?_ ?_
      rotate_left
      ·rintro w' s0'
       go_simp
       try with_reducible rfl
      try simp only [Act.put, zq1, zq2, zq3, zq4, zq5, zq6]
      refine anyX_last (by kernel_rfl) (by kernel_rfl) rfl rfl ?_
      try simp only [zq1, zq2, zq3]
      go_simp
      try apply_assumption
      go_wp2_with fail
      go_ret
      exact .inr ⟨rfl, by first | omega | (rw [HX.out, q, HY.out]) | exact hz, HF3.out⟩
     ·have u1 : ((c8 : Int) == (n : Int)) = false := by simp; omega
      have u2 : (c8 == n) = false := by simpa using u
      refine tkx (i := 21) (v := ?_) hS ?_ ?_
      rotate_left
      ·rintro w' s0'
       go_simp
       try with_reducible rfl
      try simp only [Act.put, zq1, zq2, zq3, zq4, zq5, zq6]
      refine tkx (i := 22) (v := ?_) hS ?_ ?_
      rotate_left
      ·rintro w' s0'
       go_simp
       try with_reducible rfl
      try simp only [Act.put, zq1, zq2, zq3, zq4, zq5, zq6]
      refine anyX_last (by kernel_rfl) (by kernel_rfl) rfl rfl ?_
      try simp only [zq1, zq2, zq3]
      go_simp
      try apply_assumption
      go_wp2_with fail
      go_ret
      exact ⟨rfl, HF3.out⟩
    ·refine tkx (i := 3) (v := ?_) hS ?_ ?_
     rotate_left
     ·rintro w' s0'
      go_simp
      try with_reducible rfl
     try simp only [Act.put, zq1, zq2, zq3, zq4, zq5, zq6]
     refine tkx (i := 4) (v := ?_) hS ?_ ?_
     rotate_left
     ·rintro w' s0'
      go_simp
      try with_reducible rfl
     try simp only [Act.put, zq1, zq2, zq3, zq4, zq5, zq6]
     refine tkx (i := 5) (v := ?_) hS ?_ ?_
     rotate_left
     ·rintro w' s0'
      go_simp
      try with_reducible rfl
     try simp only [Act.put, zq1, zq2, zq3, zq4, zq5, zq6]
     refine tkx (i := 6) (v := ?_) hS ?_ ?_
     rotate_left
     ·rintro w' s0'
      go_simp
      try with_reducible rfl
     try simp only [Act.put, zq1, zq2, zq3, zq4, zq5, zq6]
     refine tkx (i := 7) (v := ?_) hS ?_ ?_
     rotate_left
     ·rintro w' s0'
      go_simp
      try with_reducible rfl
     try simp only [Act.put, zq1, zq2, zq3, zq4, zq5, zq6]
     refine anyX_g (i := 8) (by kernel_rfl) (by decide) rfl (by rfl) ?_
     intro K hK
     try simp only [zq1, zq2, zq3]
     go_simp
     refine hK _ _ hS ?_
     clear hK
     try simp only [Act.put, zq1, zq2, zq3, zq4, zq5, zq6]
     refine tkx (i := 9) (v := ?_) hS ?_ ?_
     rotate_left
     ·rintro w' s0'
      go_simp
      try with_reducible rfl
     try simp only [Act.put, zq1, zq2, zq3, zq4, zq5, zq6]
     refine tkx (i := 10) (v := ?_) hS ?_ ?_
     rotate_left
     ·rintro w' s0'
      go_simp
      try with_reducible rfl
     try simp only [Act.put, zq1, zq2, zq3, zq4, zq5, zq6]
     refine tkx (i := 11) (v := ?_) hS ?_ ?_
     rotate_left
     ·rintro w' s0'
      go_simp
      try with_reducible rfl
     try simp only [Act.put, zq1, zq2, zq3, zq4, zq5, zq6]
     refine tkskip (i := 12) hS ?_
     try simp only [Act.put, zq1, zq2, zq3, zq4, zq5, zq6]
     refine tkskip (i := 13) hS ?_
     try simp only [Act.put, zq1, zq2, zq3, zq4, zq5, zq6]
     refine tkskip (i := 14) hS ?_
     try simp only [Act.put, zq1, zq2, zq3, zq4, zq5, zq6]
     refine tkskip (i := 15) hS ?_
     try simp only [Act.put, zq1, zq2, zq3, zq4, zq5, zq6]
     refine tkskip (i := 16) hS ?_
     try simp only [Act.put, zq1, zq2, zq3, zq4, zq5, zq6]
     refine tkskip (i := 17) hS ?_
     try simp only [Act.put, zq1, zq2, zq3, zq4, zq5, zq6]
     refine tkskip (i := 18) hS ?_
     try simp only [Act.put, zq1, zq2, zq3, zq4, zq5, zq6]
     refine tkskip (i := 19) hS ?_
     try simp only [Act.put, zq1, zq2, zq3, zq4, zq5, zq6]
     refine tkskip (i := 20) hS ?_
     try simp only [Act.put, zq1, zq2, zq3, zq4, zq5, zq6]
     refine tkskip (i := 21) hS ?_
     try simp only [Act.put, zq1, zq2, zq3, zq4, zq5, zq6]
     refine tkx (i := 22) (v := ?_) hS ?_ ?_
     rotate_left
     ·rintro w' s0'
      go_simp
      try with_reducible rfl
     try simp only [Act.put, zq1, zq2, zq3, zq4, zq5, zq6]
     refine anyX_last (by kernel_rfl) (by kernel_rfl) rfl rfl ?_
     try simp only [zq1, zq2, zq3]
     go_simp
     try apply_assumption
     go_wp2_with fail
     go_ret
     exact ⟨rfl, HF3.out⟩
   ·have q1 : (X == Y) = false := by simpa using q
    refine tkx (i := 3) (v := ?_) hS ?_ ?_
    rotate_left
    ·rintro w' s0'
     go_simp
     try with_reducible rfl
    try simp only [Act.put, zq1, zq2, zq3, zq4, zq5, zq6]
    refine tkx (i := 4) (v := ?_) hS ?_ ?_
    rotate_left
    ·rintro w' s0'
     go_simp
     try with_reducible rfl
    try simp only [Act.put, zq1, zq2, zq3, zq4, zq5, zq6]
    refine tkskip (i := 5) hS ?_
    try simp only [Act.put, zq1, zq2, zq3, zq4, zq5, zq6]
    refine tkskip (i := 6) hS ?_
    try simp only [Act.put, zq1, zq2, zq3, zq4, zq5, zq6]
    refine tkskip (i := 7) hS ?_
    try simp only [Act.put, zq1, zq2, zq3, zq4, zq5, zq6]
    refine tkskip (i := 8) hS ?_
    try simp only [Act.put, zq1, zq2, zq3, zq4, zq5, zq6]
    refine tkskip (i := 9) hS ?_
    try simp only [Act.put, zq1, zq2, zq3, zq4, zq5, zq6]
    refine tkx (i := 10) (v := ?_) hS ?_ ?_
    rotate_left
    ·rintro w' s0'
     go_simp
     try with_reducible rfl
    try simp only [Act.put, zq1, zq2, zq3, zq4, zq5, zq6]
    refine tkx (i := 11) (v := ?_) hS ?_ ?_
    rotate_left
    ·rintro w' s0'
     go_simp
     try with_reducible rfl
    try simp only [Act.put, zq1, zq2, zq3, zq4, zq5, zq6]
    refine tkskip (i := 12) hS ?_
    try simp only [Act.put, zq1, zq2, zq3, zq4, zq5, zq6]
    refine tkskip (i := 13) hS ?_
    try simp only [Act.put, zq1, zq2, zq3, zq4, zq5, zq6]
    refine tkskip (i := 14) hS ?_
    try simp only [Act.put, zq1, zq2, zq3, zq4, zq5, zq6]
    refine tkskip (i := 15) hS ?_
    try simp only [Act.put, zq1, zq2, zq3, zq4, zq5, zq6]
    refine tkskip (i := 16) hS ?_
    try simp only [Act.put, zq1, zq2, zq3, zq4, zq5, zq6]
    refine tkskip (i := 17) hS ?_
    try simp only [Act.put, zq1, zq2, zq3, zq4, zq5, zq6]
    refine tkskip (i := 18) hS ?_
    try simp only [Act.put, zq1, zq2, zq3, zq4, zq5, zq6]
    refine tkskip (i := 19) hS ?_
    try simp only [Act.put, zq1, zq2, zq3, zq4, zq5, zq6]
    refine tkskip (i := 20) hS ?_
    try simp only [Act.put, zq1, zq2, zq3, zq4, zq5, zq6]
    refine tkskip (i := 21) hS ?_
    try simp only [Act.put, zq1, zq2, zq3, zq4, zq5, zq6]
    refine tkx (i := 22) (v := ?_) hS ?_ ?_
    rotate_left
    ·rintro w' s0'
     go_simp
     try with_reducible rfl
    try simp only [Act.put, zq1, zq2, zq3, zq4, zq5, zq6]
    refine anyX_last (by kernel_rfl) (by kernel_rfl) rfl rfl ?_
    try simp only [zq1, zq2, zq3]
    go_simp
    try apply_assumption
    go_wp2_with fail
    go_ret
    exact .inl ⟨rfl, (fun _ _ e => q (by rw [<- HX.out, e, HY.out])), HF3.out⟩
  ·obtain ⟨rfl, hc⟩ := hno (by omega)
   have HC3 := Lib.hid hc
   replace hS : (fun W : World => W.cell? ⟨b, 0, none⟩ = some (.slice A n cap)) V3 := hc.x.cell 0
   have k1 := hc.x.cell 1
   have k2 : V3.cell? ⟨b, 2, none⟩ = some (.bool true) := hc.x.cell 2
   clear hy hno hc
   refine ⟨_, rfl, ?_⟩
   refine hK _ _ hS ?_
   clear hK
   try simp only [Act.put, zq1, zq2, zq3, zq4, zq5, zq6]
   clear k1
   by_cases q : 0 = Y
   ·have q1 : ((0 : Int) == Y) = true := by simpa using q
    refine tkx (i := 3) (v := ?_) hS ?_ ?_
    rotate_left
    ·rintro w' s0'
     go_simp
     try with_reducible rfl
    try simp only [Act.put, zq1, zq2, zq3, zq4, zq5, zq6]
    refine tkx (i := 4) (v := ?_) hS ?_ ?_
    rotate_left
    ·rintro w' s0'
     go_simp
     try with_reducible rfl
    try simp only [Act.put, zq1, zq2, zq3, zq4, zq5, zq6]
    refine tkx (i := 5) (v := ?_) hS ?_ ?_
    rotate_left
    ·rintro w' s0'
     go_simp
     try with_reducible rfl
    try simp only [Act.put, zq1, zq2, zq3, zq4, zq5, zq6]
    refine tkx (i := 6) (v := ?_) hS ?_ ?_
    rotate_left
    ·rintro w' s0'
     go_simp
     try with_reducible rfl
    try simp only [Act.put, zq1, zq2, zq3, zq4, zq5, zq6]
    refine tkx (i := 7) (v := ?_) hS ?_ ?_
    rotate_left
    ·rintro w' s0'
     go_simp
     try with_reducible rfl
    try simp only [Act.put, zq1, zq2, zq3, zq4, zq5, zq6]
    refine anyX_g (i := 8) (by kernel_rfl) (by decide) rfl (by rfl) ?_
    intro K hK
    try simp only [zq1, zq2, zq3]
    go_simp
    refine hK _ _ hS ?_
    clear hK
    try simp only [Act.put, zq1, zq2, zq3, zq4, zq5, zq6]
    refine tkx (i := 9) (v := ?_) hS ?_ ?_
    rotate_left
    ·rintro w' s0'
     go_simp
     try with_reducible rfl
    try simp only [Act.put, zq1, zq2, zq3, zq4, zq5, zq6]
    refine tkx (i := 10) (v := ?_) hS ?_ ?_
    rotate_left
    ·rintro w' s0'
     go_simp
     try with_reducible rfl
    try simp only [Act.put, zq1, zq2, zq3, zq4, zq5, zq6]
    refine tkx (i := 11) (v := ?_) hS ?_ ?_
    rotate_left
    ·rintro w' s0'
     go_simp
     try with_reducible rfl
    try simp only [Act.put, zq1, zq2, zq3, zq4, zq5, zq6]
    refine tkskip (i := 12) hS ?_
    try simp only [Act.put, zq1, zq2, zq3, zq4, zq5, zq6]
    refine tkskip (i := 13) hS ?_
    try simp only [Act.put, zq1, zq2, zq3, zq4, zq5, zq6]
    refine tkskip (i := 14) hS ?_
    try simp only [Act.put, zq1, zq2, zq3, zq4, zq5, zq6]
    refine tkskip (i := 15) hS ?_
    try simp only [Act.put, zq1, zq2, zq3, zq4, zq5, zq6]
    refine tkskip (i := 16) hS ?_
    try simp only [Act.put, zq1, zq2, zq3, zq4, zq5, zq6]
    refine tkskip (i := 17) hS ?_
    try simp only [Act.put, zq1, zq2, zq3, zq4, zq5, zq6]
    refine tkskip (i := 18) hS ?_
    try simp only [Act.put, zq1, zq2, zq3, zq4, zq5, zq6]
    refine tkskip (i := 19) hS ?_
    try simp only [Act.put, zq1, zq2, zq3, zq4, zq5, zq6]
    refine tkskip (i := 20) hS ?_
    try simp only [Act.put, zq1, zq2, zq3, zq4, zq5, zq6]
    refine tkskip (i := 21) hS ?_
    try simp only [Act.put, zq1, zq2, zq3, zq4, zq5, zq6]
    refine tkx (i := 22) (v := ?_) hS ?_ ?_
    rotate_left
    ·rintro w' s0'
     go_simp
     try with_reducible rfl
    try simp only [Act.put, zq1, zq2, zq3, zq4, zq5, zq6]
    refine anyX_last (by kernel_rfl) (by kernel_rfl) rfl rfl ?_
    try simp only [zq1, zq2, zq3]
    go_simp
    try apply_assumption
    go_wp2_with fail
    go_ret
    exact .inl ⟨rfl, (fun e _ _ => absurd e (by omega)), HF3.out⟩
   ·have q1 : ((0 : Int) == Y) = false := by simpa using q
    refine tkx (i := 3) (v := ?_) hS ?_ ?_
    rotate_left
    ·rintro w' s0'
     go_simp
     try with_reducible rfl
    try simp only [Act.put, zq1, zq2, zq3, zq4, zq5, zq6]
    refine tkx (i := 4) (v := ?_) hS ?_ ?_
    rotate_left
    ·rintro w' s0'
     go_simp
     try with_reducible rfl
    try simp only [Act.put, zq1, zq2, zq3, zq4, zq5, zq6]
    refine tkskip (i := 5) hS ?_
    try simp only [Act.put, zq1, zq2, zq3, zq4, zq5, zq6]
    refine tkskip (i := 6) hS ?_
    try simp only [Act.put, zq1, zq2, zq3, zq4, zq5, zq6]
    refine tkskip (i := 7) hS ?_
    try simp only [Act.put, zq1, zq2, zq3, zq4, zq5, zq6]
    refine tkskip (i := 8) hS ?_
    try simp only [Act.put, zq1, zq2, zq3, zq4, zq5, zq6]
    refine tkskip (i := 9) hS ?_
    try simp only [Act.put, zq1, zq2, zq3, zq4, zq5, zq6]
    refine tkx (i := 10) (v := ?_) hS ?_ ?_
    rotate_left
    ·rintro w' s0'
     go_simp
     try with_reducible rfl
    try simp only [Act.put, zq1, zq2, zq3, zq4, zq5, zq6]
    refine tkx (i := 11) (v := ?_) hS ?_ ?_
    rotate_left
    ·rintro w' s0'
     go_simp
     try with_reducible rfl
    try simp only [Act.put, zq1, zq2, zq3, zq4, zq5, zq6]
    refine tkskip (i := 12) hS ?_
    try simp only [Act.put, zq1, zq2, zq3, zq4, zq5, zq6]
    refine tkskip (i := 13) hS ?_
    try simp only [Act.put, zq1, zq2, zq3, zq4, zq5, zq6]
    refine tkskip (i := 14) hS ?_
    try simp only [Act.put, zq1, zq2, zq3, zq4, zq5, zq6]
    refine tkskip (i := 15) hS ?_
    try simp only [Act.put, zq1, zq2, zq3, zq4, zq5, zq6]
    refine tkskip (i := 16) hS ?_
    try simp only [Act.put, zq1, zq2, zq3, zq4, zq5, zq6]
    refine tkskip (i := 17) hS ?_
    try simp only [Act.put, zq1, zq2, zq3, zq4, zq5, zq6]
    refine tkskip (i := 18) hS ?_
    try simp only [Act.put, zq1, zq2, zq3, zq4, zq5, zq6]
    refine tkskip (i := 19) hS ?_
    try simp only [Act.put, zq1, zq2, zq3, zq4, zq5, zq6]
    refine tkskip (i := 20) hS ?_
    try simp only [Act.put, zq1, zq2, zq3, zq4, zq5, zq6]
    refine tkskip (i := 21) hS ?_
    try simp only [Act.put, zq1, zq2, zq3, zq4, zq5, zq6]
    refine tkx (i := 22) (v := ?_) hS ?_ ?_
    rotate_left
    ·rintro w' s0'
     go_simp
     try with_reducible rfl
    try simp only [Act.put, zq1, zq2, zq3, zq4, zq5, zq6]
    refine anyX_last (by kernel_rfl) (by kernel_rfl) rfl rfl ?_
    try simp only [zq1, zq2, zq3]
    go_simp
    try apply_assumption
    go_wp2_with fail
    go_ret
    exact .inl ⟨rfl, (fun e _ _ => absurd e (by omega)), HF3.out⟩
end Go.Proofs.Ytjkcglgkdclidaa
