/- What syn's sets mean, in plain mathematics; contracts of the look for a set by its name. What syn's sets mean: contracts of sets by themselves, of nots. -/
import Derived.Test.YtfccnadbiglagaaGreatVSynWb
import Derived.Test.YtfccnadbiglagaaGreatVSynA
import Derived.Test.YtfccnadbiglagaaGreatVSynE
import Derived.Test.YtfccnadbiglagaaGreatVSetM
import Derived.Test.YtfccnadbiglagaaGreatVAny
import Derived.Lib.LazyBuf
import Derived.Test.YtfccnadbiglagaaGreatVSynWd
set_option linter.unusedVariables false
set_option linter.unusedSimpArgs false
set_option maxRecDepth 100000
set_option maxHeartbeats 4000000
namespace Go.Proofs.YtfccnadbiglagaaGreat
open Go Go.RowKit
abbrev Rg := List (Int × Int)
def meanN (D : List Bs) (ss : List Rg) (s : Bs) : Rg := if 0 <= ixN (D.take ss.length) s then ss.getD (ixN (D.take ss.length) s).toNat [] else []
def meanC (D : List Bs) (ss : List Rg) : Cls -> Rg
 | .range lo hi => normL [((lo : Int), (hi : Int))]
 | .name s => meanN D ss s
 | .any_ => notL []
 | .not_ c => notL (meanC D ss c)
 | .or_ a b => normL [meanC D ss a, meanC D ss b].flatten
 | .and_ a b => andL (meanC D ss a) (meanC D ss b)
 | .less a b => lessL (meanC D ss a) (meanC D ss b)
def RtA (ss : List Rg) : Prop := ∀ l ∈ ss, Rt l
theorem meanN_rt {D : List Bs} {ss : List Rg} (h : RtA ss) (s : Bs) : Rt (meanN D ss s) := by
 unfold meanN
 split
 ·rcases Nat.lt_or_ge (ixN (D.take ss.length) s).toNat ss.length with hi | hi
  ·rw [List.getD_eq_getElem?_getD, List.getElem?_eq_getElem hi]; exact h _ (List.getElem_mem hi)
  ·rw [List.getD_eq_getElem?_getD, List.getElem?_eq_none hi]; trivial
 ·trivial
theorem meanC_rt {D : List Bs} {ss : List Rg} (h : RtA ss) : ∀ c : Cls, Rt (meanC D ss c)
 | .range _ _ => normL_rt _
 | .name s => meanN_rt h s
 | .any_ => notL_rt trivial
 | .not_ c => notL_rt (meanC_rt h c)
 | .or_ _ _ => normL_rt _
 | .and_ _ _ => andL_rt
 | .less _ _ => lessL_rt
def MeanAt (w : World) (b : Nat) (D : List Bs) (ss : List Rg) : Prop :=
 ∃ (ds rs sv : Value), Blk w b 140 #[ds, rs, sv] /\ Names w (fun _ => True) ds D /\ D.length <= 1000 /\ ReadsL w sv ss.length ss /\ ss.length <= D.length /\ RtA ss
theorem MeanAt.below {w w' : World} {b : Nat} {D : List Bs} {ss : List Rg} (h : MeanAt w b D ss) (hb : Below w.heap.size w w') : MeanAt w' b D ss := by
 obtain ⟨ds, rs, sv, h1, h2, h3, h4, h5, h6⟩ := h
 exact ⟨ds, rs, sv, Blk.below h1 hb (Blk.lt h1), h2.keep (fun _ h => h) (fun g _ i y hy => by rw [hb.cell (p := ⟨g, i, none⟩) (World.block_lt_of_cell? w _ hy)]; exact hy), h3, h4.below hb, h5, h6⟩
theorem Tells.from_ {w w1 w2 : World} {R : Rg} {e : Ending} (hb : Below w.heap.size w w1) (h : Tells w1 R e w2) : Tells w R e w2 := by
 obtain ⟨v, e1, h2, h3⟩ := h
 exact ⟨v, e1, h2.more hb.size, hb.trans (h3.mono hb.size)⟩
theorem cloneP_any {w : World} {v : Value} {n : Nat} {l : Rg} (h : ReadsP w v n l) (hn : n <= 1000000) : Calls Tryz.prog 138 #[v] w (Tells w l) := by
 have h0 := h
 obtain ⟨hl, a, cap, rfl, h2, h3, h4, h5⟩ := h
 have H0 := Lib.hid h0; have HL := Lib.hid hl
 clear h0 hl h5
 cases a with
 | none =>
   obtain rfl := h4 rfl
   obtain rfl : n = 0 := by omega
   have hl0 : l = [] := List.eq_nil_of_length_eq_zero HL.out
   subst hl0
   clear h4
   have hnil := fun W => Lib.run_eql_slice_nil (P := Tryz.prog) W 94 131 none 0 0 0 0 Tryz.underlying94
   go_enter Tryz.func138, Tryz.ntmps138
   go_wp2_with fail
   go_ret
   exact ⟨_, rfl, OwnP.nil _ _, Below.refl _ _⟩
 | some ad =>
   clear h4
   have ho := OwnP.empty w
   have hr := H0.out.alloc (.cells #[] 131)
   have HO := Lib.hid ho; have HR := Lib.hid hr; clear ho hr
   have hnil := fun W => Lib.run_eql_slice_nil (P := Tryz.prog) W 94 131 (some ad) n cap 0 0 Tryz.underlying94
   go_enter Tryz.func138, Tryz.ntmps138
   go_wp2_with (at_builtin; refine wpList_concatP rfl _ _ rfl w.heap.size _ 0 [] rfl HO.out _ n l rfl HR.out (by omega) (by simp) ?_)
   intro v' w' q1 q2 q3 q4
   have hlen := q1.len
   have Q1 := Lib.hid q1; have Q2 := Lib.hid (((Below.refl w.heap.size w).alloc (Nat.le_refl _) (.cells #[] 131)).trans q2)
   clear q1 q2 q3 q4
   go_wp2_with fail
   go_ret
   refine ⟨_, rfl, ?_, Q2.out⟩
   have := Q1.out
   rw [hlen]; exact this
theorem names_take {w : World} {S : Nat -> Prop} {A : Option Addr} {n c : Nat} {D : List Bs} (h : Names w S (.slice A n c) D) (k : Nat) (hk : k <= D.length) : Names w S (.slice A k c) (D.take k) := by
 obtain ⟨A', c', e, h2, h3, h4, h5⟩ := h
 injection e with e1 e2 e3
 subst e1; subst e3
 have hl : (D.take k).length = k := by rw [List.length_take]; omega
 refine ⟨A, c, by rw [hl], by rw [hl]; omega, h3, h4, fun i hi => ?_⟩
 rw [hl] at hi
 obtain ⟨b, o, q1, q2, q3, s, y1, y2, y3, y4, y5, y6, y7, q4, q5⟩ := h5 i (by omega)
 refine ⟨b, o, q1, q2, q3, s, y1, y2, y3, y4, y5, y6, y7, ?_, q5⟩
 rw [q4]
 simp [List.getD, List.getElem?_take, hi]
theorem names_low {w : World} {S : Nat -> Prop} {v : Value} {D : List Bs} (h : Names w S v D) : Names w (fun g => g < w.heap.size) v D := by
 obtain ⟨A, c, e, h2, h3, h4, h5⟩ := h
 refine ⟨A, c, e, h2, h3, h4, fun i hi => ?_⟩
 obtain ⟨b, o, q1, q2, q3, q⟩ := h5 i hi
 exact ⟨b, o, q1, q3, q3, q⟩
theorem mnamed_any {w : World} {b : Nat} {D : List Bs} {ss : List Rg} {nm : ByteArray} (h : MeanAt w b D ss) : Calls Tryz.prog 116 #[.pointer (some ⟨b, 0, none⟩), .string nm] w (Tells w (meanN D ss nm.data.toList)) := by
 have h0 := h
 obtain ⟨ds, rs, sv, hB, hN, hD9, hL, hkD, hR⟩ := h
 obtain ⟨A, c, rfl, hA1, hA2, hA3, hA4⟩ := id hN
 obtain ⟨hl0, a, cap, rfl, hS1, hS2, hS3, hS4⟩ := id hL
 have hdf := defined_any w.drew (fun g => g < w.heap.size) (.slice A ss.length c) (D.take ss.length) nm (names_take (names_low hN) ss.length hkD) (fun _ h => h) (by rw [List.length_take]; omega)
 obtain ⟨I, hI⟩ : ∃ I, ixN (D.take ss.length) nm.data.toList = I := ⟨_, rfl⟩
 have hge := ixN_ge (D.take ss.length) nm.data.toList
 have hlt := ixN_lt (D.take ss.length) nm.data.toList
 have hmn : meanN D ss nm.data.toList = if 0 <= I then ss.getD I.toNat [] else [] := by unfold meanN; rw [hI]
 rw [hI] at hdf hge hlt
 rw [List.length_take] at hlt
 obtain ⟨RES, hRES⟩ : ∃ RES, meanN D ss nm.data.toList = RES := ⟨_, rfl⟩
 rw [hRES] at hmn ⊢
 have HMN := Lib.hid hmn
 clear hRES hmn
 have hIk : I < (ss.length : Int) := by omega
 obtain ⟨k, hk⟩ : ∃ k, ss.length = k := ⟨_, rfl⟩
 rw [hk] at hB hL hS1 hkD hdf hIk hS4
 have c0 := Blk.cell hB 0; have c2 := Blk.cell hB 2
 simp only [List.getElem?_toArray, List.getElem?_cons_zero, List.getElem?_cons_succ] at c0 c2
 have k0 : (0 : Int) <= (k : Int) := Int.natCast_nonneg _
 have k1 : (k : Int) <= (c : Int) := by omega
 have k9 : (k : Int) <= 1000 := by omega
 unfold maxLen at hA2 hS2
 obtain ⟨nD, hnD⟩ : ∃ nD, D.length = nD := ⟨_, rfl⟩
 rw [hnD] at c0 hD9 hA1 hkD
 have c9 : (c : Int) <= 9223372036854775807 := by omega
 have n1 : (nD : Int) <= (c : Int) := by omega
 have kD : (k : Int) <= (nD : Int) := by omega
 have HDF := Lib.hid hdf; have HS4 := Lib.hid hS4; have HRT := Lib.hid hR; have HKK := Lib.hid hk; have HB := Lib.hid hB
 clear hdf hS4 hR hN hL hA4 h0 hI hlt hl0 hA3 hB hk hnD
 go_enter Tryz.func116, Tryz.ntmps116
 go_wp2_with fail
 refine region_x 13 (fun w' : World => w'.cell? ⟨b, 0, none⟩ = some (.slice A nD c) /\ w'.cell? ⟨b, 2, none⟩ = some (.slice a k cap)) (by kernel_rfl) ?_
 have hS : w.drew.cell? ⟨b, 0, none⟩ = some (.slice A nD c) /\ w.drew.cell? ⟨b, 2, none⟩ = some (.slice a k cap) := ⟨c0, c2⟩
 refine anyX_take (i := 0) (v := ?_) rfl (by kernel_rfl) (by kernel_rfl) (by kernel_rfl) (by kernel_rfl) (fun _ _ _ h => h) (Or.inl ⟨by rfl, ?_⟩) hS ?_
 rotate_left
 ·rintro w' ⟨s0, s2⟩
  go_simp
  try with_reducible rfl
 try simp only [Act.put, List.getElem_toArray, List.getElem_cons_succ, List.getElem_cons_zero, List.setIfInBounds_toArray, List.set_cons_zero, List.set_cons_succ]
 refine anyX_take (i := 1) (v := ?_) rfl (by kernel_rfl) (by kernel_rfl) (by kernel_rfl) (by kernel_rfl) (fun _ _ _ h => h) (Or.inl ⟨by rfl, ?_⟩) hS ?_
 rotate_left
 ·rintro w' ⟨s0, s2⟩
  go_simp
  try with_reducible rfl
 try simp only [Act.put, List.getElem_toArray, List.getElem_cons_succ, List.getElem_cons_zero, List.setIfInBounds_toArray, List.set_cons_zero, List.set_cons_succ]
 refine anyX_take (i := 2) (v := ?_) rfl (by kernel_rfl) (by kernel_rfl) (by kernel_rfl) (by kernel_rfl) (fun _ _ _ h => h) (Or.inl ⟨by rfl, ?_⟩) hS ?_
 rotate_left
 ·rintro w' ⟨s0, s2⟩
  go_simp
  try with_reducible rfl
 try simp only [Act.put, List.getElem_toArray, List.getElem_cons_succ, List.getElem_cons_zero, List.setIfInBounds_toArray, List.set_cons_zero, List.set_cons_succ]
 refine anyX_take (i := 3) (v := ?_) rfl (by kernel_rfl) (by kernel_rfl) (by kernel_rfl) (by kernel_rfl) (fun _ _ _ h => h) (Or.inl ⟨by rfl, ?_⟩) hS ?_
 rotate_left
 ·rintro w' ⟨s0, s2⟩
  go_simp
  try with_reducible rfl
 try simp only [Act.put, List.getElem_toArray, List.getElem_cons_succ, List.getElem_cons_zero, List.setIfInBounds_toArray, List.set_cons_zero, List.set_cons_succ]
 refine anyX_take (i := 4) (v := ?_) rfl (by kernel_rfl) (by kernel_rfl) (by kernel_rfl) (by kernel_rfl) (fun _ _ _ h => h) (Or.inl ⟨by rfl, ?_⟩) hS ?_
 rotate_left
 ·rintro w' ⟨s0, s2⟩
  go_simp
  try with_reducible rfl
 try simp only [Act.put, List.getElem_toArray, List.getElem_cons_succ, List.getElem_cons_zero, List.setIfInBounds_toArray, List.set_cons_zero, List.set_cons_succ]
 refine anyX_take (i := 5) (v := ?_) rfl (by kernel_rfl) (by kernel_rfl) (by kernel_rfl) (by kernel_rfl) (fun _ _ _ h => h) (Or.inl ⟨by rfl, ?_⟩) hS ?_
 rotate_left
 ·rintro w' ⟨s0, s2⟩
  go_simp
  try with_reducible rfl
 try simp only [Act.put, List.getElem_toArray, List.getElem_cons_succ, List.getElem_cons_zero, List.setIfInBounds_toArray, List.set_cons_zero, List.set_cons_succ]
 refine anyX_take (i := 6) (v := ?_) rfl (by kernel_rfl) (by kernel_rfl) (by kernel_rfl) (by kernel_rfl) (fun _ _ _ h => h) (Or.inl ⟨by rfl, ?_⟩) hS ?_
 rotate_left
 ·rintro w' ⟨s0, s2⟩
  go_simp
  try with_reducible rfl
 try simp only [Act.put, List.getElem_toArray, List.getElem_cons_succ, List.getElem_cons_zero, List.setIfInBounds_toArray, List.set_cons_zero, List.set_cons_succ]
 refine anyX_take (i := 7) (v := ?_) rfl (by kernel_rfl) (by kernel_rfl) (by kernel_rfl) (by kernel_rfl) (fun _ _ _ h => h) (Or.inl ⟨by rfl, ?_⟩) hS ?_
 rotate_left
 ·rintro w' ⟨s0, s2⟩
  go_simp
  try with_reducible rfl
 try simp only [Act.put, List.getElem_toArray, List.getElem_cons_succ, List.getElem_cons_zero, List.setIfInBounds_toArray, List.set_cons_zero, List.set_cons_succ]
 refine anyX_take (i := 8) (v := ?_) rfl (by kernel_rfl) (by kernel_rfl) (by kernel_rfl) (by kernel_rfl) (fun _ _ _ h => h) (Or.inl ⟨by rfl, ?_⟩) hS ?_
 rotate_left
 ·rintro w' ⟨s0, s2⟩
  go_simp
  try with_reducible rfl
 try simp only [Act.put, List.getElem_toArray, List.getElem_cons_succ, List.getElem_cons_zero, List.setIfInBounds_toArray, List.set_cons_zero, List.set_cons_succ]
 refine anyX_take (i := 9) (v := ?_) rfl (by kernel_rfl) (by kernel_rfl) (by kernel_rfl) (by kernel_rfl) (fun _ _ _ h => h) (Or.inl ⟨by rfl, ?_⟩) hS ?_
 rotate_left
 ·rintro w' ⟨s0, s2⟩
  go_simp
  try with_reducible rfl
 try simp only [Act.put, List.getElem_toArray, List.getElem_cons_succ, List.getElem_cons_zero, List.setIfInBounds_toArray, List.set_cons_zero, List.set_cons_succ]
 refine anyX_take (i := 10) (v := ?_) rfl (by kernel_rfl) (by kernel_rfl) (by kernel_rfl) (by kernel_rfl) (fun _ _ _ h => h) (Or.inl ⟨by rfl, ?_⟩) hS ?_
 rotate_left
 ·rintro w' ⟨s0, s2⟩
  go_simp
  try with_reducible rfl
 try simp only [Act.put, List.getElem_toArray, List.getElem_cons_succ, List.getElem_cons_zero, List.setIfInBounds_toArray, List.set_cons_zero, List.set_cons_succ]
 refine anyX_take (i := 11) (v := ?_) rfl (by kernel_rfl) (by kernel_rfl) (by kernel_rfl) (by kernel_rfl) (fun _ _ _ h => h) (Or.inl ⟨by rfl, ?_⟩) hS ?_
 rotate_left
 ·rintro w' ⟨s0, s2⟩
  go_simp
  try with_reducible rfl
 try simp only [Act.put, List.getElem_toArray, List.getElem_cons_succ, List.getElem_cons_zero, List.setIfInBounds_toArray, List.set_cons_zero, List.set_cons_succ]
 refine anyX_g (i := 12) (by kernel_rfl) (by decide) rfl (by rfl) ?_
 intro K hK
 try simp only [List.getElem_toArray, List.getElem_cons_succ, List.getElem_cons_zero]
 refine wp_enterE #[.slice A k c, .string nm] Tryz.func137 (by kernel_rfl) (by kernel_rfl) ?_ HDF.out ?_
 ·go_simp
 rintro e w1 ⟨rfl, hb1⟩
 refine ⟨_, rfl, ?_⟩
 have hb1' : Below w.heap.size w w1 := (Below.refl _ _).drew.trans hb1
 have hS' : w1.cell? ⟨b, 0, none⟩ = some (.slice A nD c) /\ w1.cell? ⟨b, 2, none⟩ = some (.slice a k cap) := by
  have hblt := Blk.lt HB.out
  exact ⟨by rw [hb1'.cell (p := ⟨b, 0, none⟩) hblt]; exact c0, by rw [hb1'.cell (p := ⟨b, 2, none⟩) hblt]; exact c2⟩
 refine hK _ _ hS' ?_
 clear hK hS
 try simp only [Act.put, List.getElem_toArray, List.getElem_cons_succ, List.getElem_cons_zero, List.setIfInBounds_toArray, List.set_cons_zero, List.set_cons_succ]
 refine anyX_last (by kernel_rfl) (by kernel_rfl) rfl rfl ?_
 try simp only [List.getElem_toArray, List.getElem_cons_succ, List.getElem_cons_zero]
 go_simp
 try apply_assumption
 obtain ⟨s0, s2⟩ := hS'
 have HB1 := Lib.hid hb1'
 clear hb1 hb1' c0 c2 HDF
 by_cases hI0 : 0 <= I
 ·have hres := HMN.out
  rw [if_pos hI0] at hres
  rw [hres]
  clear hres HMN
  have hq : decide (I < 0) = false := by simpa using hI0
  obtain ⟨i, rfl⟩ : ∃ i : Nat, I = i := ⟨I.toNat, by omega⟩
  have hik : i < k := by omega
  obtain ⟨g, o, u, hau, hcu, hru⟩ := HS4.out i hik
  subst hau
  have hcu1 : w1.cell? ⟨g, o + i, none⟩ = some u := by rw [HB1.out.cell (p := ⟨g, o + i, none⟩) (World.block_lt_of_cell? w _ hcu)]; exact hcu
  have hru1 := hru.below HB1.out
  have hsh : (ss.getD i []).length <= 557056 := by
   have hi' : i < ss.length := by rw [HKK.out]; exact hik
   rw [List.getD_eq_getElem?_getD, List.getElem?_eq_getElem hi']
   exact (HRT.out _ (List.getElem_mem hi')).short
  have hcl := cloneP_any hru1 (by omega)
  obtain ⟨ua, ucap, rfl, -⟩ := hru.form
  obtain ⟨L, hL⟩ : ∃ L, ss.getD i [] = L := ⟨_, rfl⟩
  rw [show ((i : Int).toNat) = i by omega, hL]
  rw [hL] at hcl hcu1
  obtain ⟨nL, hnL⟩ : ∃ nL, L.length = nL := ⟨_, rfl⟩
  rw [hnL] at hcl hcu1
  have HCL := Lib.hid hcl
  clear hcl hru hru1 hsh hcu HS4 hL hnL
  go_wp2_with fail
  refine HCL.out.mono ?_
  rintro e w2 ⟨v, rfl, ho, hb2⟩
  have HO := Lib.hid ho; have HB2 := Lib.hid hb2; clear ho hb2
  go_wp2_with fail
  go_ret
  exact Tells.from_ HB1.out ⟨v, rfl, HO.out, HB2.out⟩
 ·have hres := HMN.out
  rw [if_neg hI0] at hres
  rw [hres]
  clear hres HMN
  have hq : decide (I < 0) = true := by simp; omega
  have hI1 : I < 0 := by omega
  clear HS4
  go_wp2_with fail
  go_ret
  exact ⟨_, rfl, OwnP.nil _ _, HB1.out⟩
end Go.Proofs.YtfccnadbiglagaaGreat
namespace Go.Proofs.YtfccnadbiglagaaGreat
open Go Go.RowKit
def MSpec (D : List Bs) (ss : List Rg) (p : Cls) : Prop :=
 ∀ (w : World) (b : Nat) (v : Value), TreeV false w (fun g => g < w.heap.size) v p.tree -> MeanAt w b D ss -> Calls Tryz.prog 92 #[.pointer (some ⟨b, 0, none⟩), v] w (Tells w (meanC D ss p))
theorem Below.five {B H : Nat} {w W : World} {a1 a2 a3 a4 a5 : Value} (h : Below B w W) (hB : B <= H) : Below B w (fiveAt W H a1 a2 a3 a4 a5) :=
 ((((h.setCell (p := ⟨H, 0, none⟩) hB a1).setCell (p := ⟨H, 1, none⟩) hB a2).setCell (p := ⟨H, 2, none⟩) hB a3).setCell (p := ⟨H, 3, none⟩) hB a4).setCell (p := ⟨H, 4, none⟩) hB a5
theorem m_leaf (D : List Bs) (ss : List Rg) (p : Cls) (hp : (∃ x y, p = .range x y) \/ p = .any_ \/ ∃ s, p = .name s) : MSpec D ss p := by
 intro w b v hT hM
 rcases hp with ⟨x, y, rfl⟩ | rfl | ⟨s, rfl⟩
 ·obtain ⟨nm, A, n, c, rfl, hnm, hk⟩ := hT.five_
  have hb0 : Below w.heap.size w ((w.alloc (.cells #[.int .i64 1, .int .i64 x, .int .i64 y, .string nm, .slice A n c] 70)).alloc (.cells #[.int .i64 x, .int .i64 y] 131)) := ((Below.refl _ _).alloc (Nat.le_refl _) _).alloc (by simp) _
  have hblk := Blk.new (w.alloc (.cells #[.int .i64 1, .int .i64 x, .int .i64 y, .string nm, .slice A n c] 70)) 131 #[.int .i64 x, .int .i64 y]
  have hz : (w.alloc (.cells #[.int .i64 1, .int .i64 x, .int .i64 y, .string nm, .slice A n c] 70)).heap.size = w.heap.size + 1 := by simp
  rw [hz] at hblk
  have hr : ReadsP _ (.slice (some ⟨w.heap.size + 1, 0, none⟩) 1 1) 1 [((x : Int), (y : Int))] := ⟨rfl, _, 1, rfl, Nat.le_refl _, by unfold maxLen; omega, (fun e => by cases e), fun i hi => ⟨w.heap.size + 1, 0, rfl, fun j hj => by
   obtain rfl : j = 0 := by omega
   exact ⟨Blk.cell hblk 0, Blk.cell hblk 1⟩⟩⟩
  have hn := norm_any hr (by omega)
  have HN := Lib.hid hn; have HB := Lib.hid hb0
  clear hn hb0 hblk hr hk hT hM hz
  go_enter Tryz.func92, Tryz.ntmps92
  go_wp2_with fail
  refine HN.out.mono ?_
  rintro e w1 h1
  have h1' := Tells.from_ HB.out h1
  obtain ⟨v, rfl, q⟩ := h1'
  have Q := Lib.hid q; clear q h1
  go_wp2_with fail
  go_ret
  exact ⟨v, rfl, Q.out⟩
 ·obtain ⟨nm, A, n, c, rfl, hnm, hk⟩ := hT.five_
  have hb0 : Below w.heap.size w (w.alloc (.cells #[.int .i64 3, .int .i64 0, .int .i64 0, .string nm, .slice A n c] 70)) := (Below.refl _ _).alloc (Nat.le_refl _) _
  have hn := not_any (ReadsP.nil (w.alloc (.cells #[.int .i64 3, .int .i64 0, .int .i64 0, .string nm, .slice A n c] 70))) (show Rt [] from trivial)
  have HN := Lib.hid hn; have HB := Lib.hid hb0
  clear hn hb0 hk hT hM
  go_enter Tryz.func92, Tryz.ntmps92
  go_wp2_with fail
  refine HN.out.mono ?_
  rintro e w1 h1
  have h1' := Tells.from_ HB.out h1
  obtain ⟨v, rfl, q⟩ := h1'
  have Q := Lib.hid q; clear q h1
  go_wp2_with fail
  go_ret
  exact ⟨v, rfl, Q.out⟩
 ·obtain ⟨nm, A, n, c, rfl, hnm, hk⟩ := hT.five_
  have hb0 : Below w.heap.size w (w.alloc (.cells #[.int .i64 2, .int .i64 0, .int .i64 0, .string nm, .slice A n c] 70)) := (Below.refl _ _).alloc (Nat.le_refl _) _
  have hn := mnamed_any (nm := nm) (hM.below hb0)
  have e0 : meanC D ss (.name s) = meanN D ss nm.data.toList := by rw [hnm]; rfl
  rw [e0]
  have HN := Lib.hid hn; have HB := Lib.hid hb0
  clear hn hb0 hk hT hM e0 hnm
  go_enter Tryz.func92, Tryz.ntmps92
  go_wp2_with fail
  refine HN.out.mono ?_
  rintro e w1 h1
  have h1' := Tells.from_ HB.out h1
  obtain ⟨v, rfl, q⟩ := h1'
  have Q := Lib.hid q; clear q h1
  go_wp2_with fail
  go_ret
  exact ⟨v, rfl, Q.out⟩
theorem m_not (D : List Bs) (ss : List Rg) (hss : RtA ss) (a : Cls) (ha : MSpec D ss a) : MSpec D ss (.not_ a) := by
 intro w b v hT hM
 obtain ⟨nm, A, n, c, rfl, hnm, hk⟩ := hT.five_
 obtain rfl : n = 1 := by have := hk.1; simpa using this.symm
 obtain ⟨g, o, rfl⟩ := hk.2.2.2.1.some (by omega)
 have hb0 : Below w.heap.size w (w.alloc (.cells #[.int .i64 4, .int .i64 0, .int .i64 0, .string nm, .slice (some ⟨g, o, none⟩) 1 c] 70)) := (Below.refl _ _).alloc (Nat.le_refl _) _
 have hch := childC_ok _ (fun g => g < w.heap.size) g o 1 c [a.tree] 0 (by simp) (hk.fr hb0) 0 rfl (by omega)
 have hrt := meanC_rt (D := D) hss a
 have HCH := Lib.hid hch; have HB := Lib.hid hb0; have HM := Lib.hid hM; have HA := Lib.hid ha; have HR := Lib.hid hrt
 clear hch hb0 hM ha hk hT hrt
 go_enter Tryz.func92, Tryz.ntmps92
 go_wp2_with fail
 refine HCH.out.mono ?_
 rintro e w1 ⟨v', rfl, hv, hb1⟩
 have hb1' := HB.out.trans (hb1.mono HB.out.size)
 have hc := HA.out w1 b v' (hv.keep (fun g hg => Nat.lt_of_lt_of_le hg hb1'.size) (fun _ _ _ _ h => h)) (HM.out.below hb1')
 have HC := Lib.hid hc; have HB1 := Lib.hid hb1'
 clear hc hv hb1 hb1' HCH HB HM HA
 go_wp2_with fail
 refine HC.out.mono ?_
 rintro e w2 ⟨v2, rfl, ho, hb2⟩
 have hn := not_any ho.reads HR.out
 have HN := Lib.hid hn; have HB2 := Lib.hid (HB1.out.trans (hb2.mono HB1.out.size))
 clear hn ho hb2 HC HB1
 go_wp2_with fail
 refine HN.out.mono ?_
 rintro e w3 h3
 have h3' := Tells.from_ HB2.out h3
 obtain ⟨v3, rfl, q⟩ := h3'
 have Q := Lib.hid q; clear q h3
 go_wp2_with fail
 go_ret
 exact ⟨v3, rfl, Q.out⟩
structure Two (w : World) (ta tb : Tree) (box : Array Value) (g5 g6 : Nat) (v0 v1 : Array Value) (W : World) : Prop where
 below : Below w.heap.size w W
 l5 : w.heap.size < g5
 l6 : w.heap.size < g6
 ne : g5 ≠ g6
 xb : Blk W w.heap.size 70 box
 x5 : Blk W g5 70 v0
 x6 : Blk W g6 70 v1
 t0 : TreeV false W (fun g => g < w.heap.size) (.agg v0) ta
 t1 : TreeV false W (fun g => g < w.heap.size) (.agg v1) tb
structure TwoPre (w : World) (ta tb : Tree) (box : Array Value) (g5 g6 : Nat) (v0 v1 : Array Value) (W : World) : Prop where
 below : Below w.heap.size w W
 l5 : w.heap.size < g5
 l6 : w.heap.size < g6
 ne : g5 ≠ g6
 xb : Blk W w.heap.size 70 box
 x5 : Blk W g5 70 #[.int .i64 0, .int .i64 0, .int .i64 0, .string ⟨#[]⟩, .slice none 0 0]
 x6 : Blk W g6 70 #[.int .i64 0, .int .i64 0, .int .i64 0, .string ⟨#[]⟩, .slice none 0 0]
 t0 : TreeV false W (fun g => g < w.heap.size) (.agg v0) ta
 t1 : TreeV false W (fun g => g < w.heap.size) (.agg v1) tb
end Go.Proofs.YtfccnadbiglagaaGreat
