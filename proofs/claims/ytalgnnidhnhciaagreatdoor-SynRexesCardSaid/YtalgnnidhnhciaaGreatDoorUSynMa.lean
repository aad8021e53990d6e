/- What syn's sets mean, in plain mathematics; contracts of the look for a set by its name. Contracts of syn's reading of sets: what stands by itself. -/
import Derived.Test.YtalgnnidhnhciaaGreatDoorShort
import Derived.Test.YtalgnnidhnhciaaGreatDoorUSynL
import Derived.Test.YtalgnnidhnhciaaGreatDoorUSynC
import Derived.Test.YtalgnnidhnhciaaGreatDoorUSynG
import Derived.Test.YtalgnnidhnhciaaGreatDoorSetO
import Derived.Test.YtalgnnidhnhciaaGreatDoorUAny
import Derived.Lib.LazyBuf
import Derived.Test.YtalgnnidhnhciaaGreatDoorUSynP
set_option linter.unusedVariables false
set_option linter.unusedSimpArgs false
set_option maxRecDepth 100000
set_option maxHeartbeats 4000000
namespace Go.Proofs.YtalgnnidhnhciaaGreatDoor
open Go Go.RowKit
abbrev Rg := List (Int × Int)
def meanN (D : List Bs) (ss : List Rg) (s : Bs) : Rg := if 0 <= ixN (D.take ss.length) s then ss.getD (ixN (D.take ss.length) s).toNat [] else []
def meanC (D : List Bs) (ss : List Rg) : Cls -> Rg
 | .range lo hi => normL [((lo : Int), (hi : Int))]
 | .name s => meanN D ss s
 | .any_ => notL []
 | .not_ c => notL (meanC D ss c)
 | .or_ a b => normL [meanC D ss a, meanC D ss b].flatten
 | .and_ a b => andL (meanC D ss a) (meanC D ss b)
 | .less a b => lessL (meanC D ss a) (meanC D ss b)
def RtA (ss : List Rg) : Prop := ∀ l ∈ ss, Rt l
theorem meanN_rt {D : List Bs} {ss : List Rg} (h : RtA ss) (s : Bs) : Rt (meanN D ss s) := by
 unfold meanN
 split
 ·rcases Nat.lt_or_ge (ixN (D.take ss.length) s).toNat ss.length with hi | hi
  ·rw [List.getD_eq_getElem?_getD, List.getElem?_eq_getElem hi]; exact h _ (List.getElem_mem hi)
  ·rw [List.getD_eq_getElem?_getD, List.getElem?_eq_none hi]; trivial
 ·trivial
theorem meanC_rt {D : List Bs} {ss : List Rg} (h : RtA ss) : ∀ c : Cls, Rt (meanC D ss c)
 | .range _ _ => normL_rt _
 | .name s => meanN_rt h s
 | .any_ => notL_rt trivial
 | .not_ c => notL_rt (meanC_rt h c)
 | .or_ _ _ => normL_rt _
 | .and_ _ _ => andL_rt
 | .less _ _ => lessL_rt
def MeanAt (w : World) (b : Nat) (D : List Bs) (ss : List Rg) : Prop :=
 ∃ (ds rs sv : Value), Blk w b 72 #[ds, rs, sv] /\ Names w (fun _ => True) ds D /\ D.length <= 1000 /\ ReadsL w sv ss.length ss /\ ss.length <= D.length /\ RtA ss
theorem ReadsL.below {w w' : World} {v : Value} {k : Nat} {ls : List Rg} (h : ReadsL w v k ls) (hb : Below w.heap.size w w') : ReadsL w' v k ls := by
 obtain ⟨h1, a, cap, h2, h3, h4, h5, h6⟩ := h
 refine ⟨h1, a, cap, h2, h3, h4, h5, fun i hi => ?_⟩
 obtain ⟨b, off, u, e1, e2, e3⟩ := h6 i hi
 exact ⟨b, off, u, e1, by rw [hb.cell (p := ⟨b, off + i, none⟩) (World.block_lt_of_cell? w _ e2)]; exact e2, e3.below hb⟩
theorem MeanAt.below {w w' : World} {b : Nat} {D : List Bs} {ss : List Rg} (h : MeanAt w b D ss) (hb : Below w.heap.size w w') : MeanAt w' b D ss := by
 obtain ⟨ds, rs, sv, h1, h2, h3, h4, h5, h6⟩ := h
 exact ⟨ds, rs, sv, Blk.below h1 hb (Blk.lt h1), h2.keep (fun _ h => h) (fun g _ i y hy => by rw [hb.cell (p := ⟨g, i, none⟩) (World.block_lt_of_cell? w _ hy)]; exact hy), h3, h4.below hb, h5, h6⟩
theorem Tells.from_ {w w1 w2 : World} {R : Rg} {e : Ending} (hb : Below w.heap.size w w1) (h : Tells w1 R e w2) : Tells w R e w2 := by
 obtain ⟨v, e1, h2, h3⟩ := h
 exact ⟨v, e1, h2.more hb.size, hb.trans (h3.mono hb.size)⟩
theorem cloneP_any {w : World} {v : Value} {n : Nat} {l : Rg} (h : ReadsP w v n l) (hn : n <= 1000000) : Calls Tryz.prog 94 #[v] w (Tells w l) := by
 have h0 := h
 obtain ⟨hl, a, cap, rfl, h2, h3, h4, h5⟩ := h
 have H0 := Lib.hid h0; have HL := Lib.hid hl
 clear h0 hl h5
 cases a with
 | none =>
   obtain rfl := h4 rfl
   obtain rfl : n = 0 := by omega
   have hl0 : l = [] := List.eq_nil_of_length_eq_zero HL.out
   subst hl0
   clear h4
   have hnil := fun W => Lib.run_eql_slice_nil (P := Tryz.prog) W 32 66 none 0 0 0 0 Tryz.underlying32
   go_enter Tryz.func94, Tryz.ntmps94
   go_wp2_with fail
   go_ret
   exact ⟨_, rfl, OwnP.nil _ _, Below.refl _ _⟩
 | some ad =>
   clear h4
   have ho := OwnP.empty w
   have hr := H0.out.alloc (.cells #[] 66)
   have HO := Lib.hid ho; have HR := Lib.hid hr; clear ho hr
   have hnil := fun W => Lib.run_eql_slice_nil (P := Tryz.prog) W 32 66 (some ad) n cap 0 0 Tryz.underlying32
   go_enter Tryz.func94, Tryz.ntmps94
   go_wp2_with (at_builtin; refine wpList_concatP rfl _ _ rfl w.heap.size _ 0 [] rfl HO.out _ n l rfl HR.out (by omega) (by simp) ?_)
   intro v' w' q1 q2 q3 q4
   have hlen := q1.len
   have Q1 := Lib.hid q1; have Q2 := Lib.hid (((Below.refl w.heap.size w).alloc (Nat.le_refl _) (.cells #[] 66)).trans q2)
   clear q1 q2 q3 q4
   go_wp2_with fail
   go_ret
   refine ⟨_, rfl, ?_, Q2.out⟩
   have := Q1.out
   rw [hlen]; exact this
theorem names_take {w : World} {S : Nat -> Prop} {A : Option Addr} {n c : Nat} {D : List Bs} (h : Names w S (.slice A n c) D) (k : Nat) (hk : k <= D.length) : Names w S (.slice A k c) (D.take k) := by
 obtain ⟨A', c', e, h2, h3, h4, h5⟩ := h
 injection e with e1 e2 e3
 subst e1; subst e3
 have hl : (D.take k).length = k := by rw [List.length_take]; omega
 refine ⟨A, c, by rw [hl], by rw [hl]; omega, h3, h4, fun i hi => ?_⟩
 rw [hl] at hi
 obtain ⟨b, o, q1, q2, q3, s, y1, y2, y3, y4, y5, y6, y7, q4, q5⟩ := h5 i (by omega)
 refine ⟨b, o, q1, q2, q3, s, y1, y2, y3, y4, y5, y6, y7, ?_, q5⟩
 rw [q4]
 simp [List.getD, List.getElem?_take, hi]
theorem names_low {w : World} {S : Nat -> Prop} {v : Value} {D : List Bs} (h : Names w S v D) : Names w (fun g => g < w.heap.size) v D := by
 obtain ⟨A, c, e, h2, h3, h4, h5⟩ := h
 refine ⟨A, c, e, h2, h3, h4, fun i hi => ?_⟩
 obtain ⟨b, o, q1, q2, q3, q⟩ := h5 i hi
 exact ⟨b, o, q1, q3, q3, q⟩
theorem named_any {w : World} {b : Nat} {D : List Bs} {ss : List Rg} {nm : ByteArray} (h : MeanAt w b D ss) : Calls Tryz.prog 55 #[.pointer (some ⟨b, 0, none⟩), .string nm] w (Tells w (meanN D ss nm.data.toList)) := by
 have h0 := h
 obtain ⟨ds, rs, sv, hB, hN, hD9, hL, hkD, hR⟩ := h
 obtain ⟨A, c, rfl, hA1, hA2, hA3, hA4⟩ := id hN
 obtain ⟨hl0, a, cap, rfl, hS1, hS2, hS3, hS4⟩ := id hL
 have hdf := defined_any w.drew (fun g => g < w.heap.size) (.slice A ss.length c) (D.take ss.length) nm (names_take (names_low hN) ss.length hkD) (fun _ h => h) (by rw [List.length_take]; omega)
 obtain ⟨I, hI⟩ : ∃ I, ixN (D.take ss.length) nm.data.toList = I := ⟨_, rfl⟩
 have hge := ixN_ge (D.take ss.length) nm.data.toList
 have hlt := ixN_lt (D.take ss.length) nm.data.toList
 have hmn : meanN D ss nm.data.toList = if 0 <= I then ss.getD I.toNat [] else [] := by unfold meanN; rw [hI]
 rw [hI] at hdf hge hlt
 rw [List.length_take] at hlt
 obtain ⟨RES, hRES⟩ : ∃ RES, meanN D ss nm.data.toList = RES := ⟨_, rfl⟩
 rw [hRES] at hmn ⊢
 have HMN := Lib.hid hmn
 clear hRES hmn
 have hIk : I < (ss.length : Int) := by omega
 obtain ⟨k, hk⟩ : ∃ k, ss.length = k := ⟨_, rfl⟩
 rw [hk] at hB hL hS1 hkD hdf hIk hS4
 have c0 := Blk.cell hB 0; have c2 := Blk.cell hB 2
 simp only [List.getElem?_toArray, List.getElem?_cons_zero, List.getElem?_cons_succ] at c0 c2
 have k0 : (0 : Int) <= (k : Int) := Int.natCast_nonneg _
 have k1 : (k : Int) <= (c : Int) := by omega
 have k9 : (k : Int) <= 1000 := by omega
 unfold maxLen at hA2 hS2
 obtain ⟨nD, hnD⟩ : ∃ nD, D.length = nD := ⟨_, rfl⟩
 rw [hnD] at c0 hD9 hA1 hkD
 have c9 : (c : Int) <= 9223372036854775807 := by omega
 have n1 : (nD : Int) <= (c : Int) := by omega
 have kD : (k : Int) <= (nD : Int) := by omega
 have HDF := Lib.hid hdf; have HS4 := Lib.hid hS4; have HRT := Lib.hid hR; have HKK := Lib.hid hk; have HB := Lib.hid hB
 clear hdf hS4 hR hN hL hA4 h0 hI hlt hl0 hA3 hB hk hnD
 go_enter Tryz.func55, Tryz.ntmps55
 go_wp2_with fail
 refine region_x 13 (fun w' : World => w'.cell? ⟨b, 0, none⟩ = some (.slice A nD c) /\ w'.cell? ⟨b, 2, none⟩ = some (.slice a k cap)) (by kernel_rfl) ?_
 have hS : w.drew.cell? ⟨b, 0, none⟩ = some (.slice A nD c) /\ w.drew.cell? ⟨b, 2, none⟩ = some (.slice a k cap) := ⟨c0, c2⟩
 refine tkx (i := 0) (v := ?_) hS ?_ ?_
 rotate_left
 ·rintro w' ⟨s0, s2⟩
  go_simp
  try with_reducible rfl
 try simp only [Act.put, zq1, zq2, zq3, zq4, zq5, zq6]
 refine tkx (i := 1) (v := ?_) hS ?_ ?_
 rotate_left
 ·rintro w' ⟨s0, s2⟩
  go_simp
  try with_reducible rfl
 try simp only [Act.put, zq1, zq2, zq3, zq4, zq5, zq6]
 refine tkx (i := 2) (v := ?_) hS ?_ ?_
 rotate_left
 ·rintro w' ⟨s0, s2⟩
  go_simp
  try with_reducible rfl
 try simp only [Act.put, zq1, zq2, zq3, zq4, zq5, zq6]
 refine tkx (i := 3) (v := ?_) hS ?_ ?_
 rotate_left
 ·rintro w' ⟨s0, s2⟩
  go_simp
  try with_reducible rfl
 try simp only [Act.put, zq1, zq2, zq3, zq4, zq5, zq6]
 refine tkx (i := 4) (v := ?_) hS ?_ ?_
 rotate_left
 ·rintro w' ⟨s0, s2⟩
  go_simp
  try with_reducible rfl
 try simp only [Act.put, zq1, zq2, zq3, zq4, zq5, zq6]
 refine tkx (i := 5) (v := ?_) hS ?_ ?_
 rotate_left
 ·rintro w' ⟨s0, s2⟩
  go_simp
  try with_reducible rfl
 try simp only [Act.put, zq1, zq2, zq3, zq4, zq5, zq6]
 refine tkx (i := 6) (v := ?_) hS ?_ ?_
 rotate_left
 ·rintro w' ⟨s0, s2⟩
  go_simp
  try with_reducible rfl
 try simp only [Act.put, zq1, zq2, zq3, zq4, zq5, zq6]
 refine tkx (i := 7) (v := ?_) hS ?_ ?_
 rotate_left
 ·rintro w' ⟨s0, s2⟩
  go_simp
  try with_reducible rfl
 try simp only [Act.put, zq1, zq2, zq3, zq4, zq5, zq6]
 refine tkx (i := 8) (v := ?_) hS ?_ ?_
 rotate_left
 ·rintro w' ⟨s0, s2⟩
  go_simp
  try with_reducible rfl
 try simp only [Act.put, zq1, zq2, zq3, zq4, zq5, zq6]
 refine tkx (i := 9) (v := ?_) hS ?_ ?_
 rotate_left
 ·rintro w' ⟨s0, s2⟩
  go_simp
  try with_reducible rfl
 try simp only [Act.put, zq1, zq2, zq3, zq4, zq5, zq6]
 refine tkx (i := 10) (v := ?_) hS ?_ ?_
 rotate_left
 ·rintro w' ⟨s0, s2⟩
  go_simp
  try with_reducible rfl
 try simp only [Act.put, zq1, zq2, zq3, zq4, zq5, zq6]
 refine tkx (i := 11) (v := ?_) hS ?_ ?_
 rotate_left
 ·rintro w' ⟨s0, s2⟩
  go_simp
  try with_reducible rfl
 try simp only [Act.put, zq1, zq2, zq3, zq4, zq5, zq6]
 refine anyX_g (i := 12) (by kernel_rfl) (by decide) rfl (by rfl) ?_
 intro K hK
 try simp only [zq1, zq2, zq3]
 refine wp_enterE #[.slice A k c, .string nm] Tryz.func93 (by kernel_rfl) (by kernel_rfl) ?_ HDF.out ?_
 ·go_simp
 rintro e w1 ⟨rfl, hb1⟩
 refine ⟨_, rfl, ?_⟩
 have hb1' : Below w.heap.size w w1 := (Below.refl _ _).drew.trans hb1
 have hS' : w1.cell? ⟨b, 0, none⟩ = some (.slice A nD c) /\ w1.cell? ⟨b, 2, none⟩ = some (.slice a k cap) := by
  have hblt := Blk.lt HB.out
  exact ⟨by rw [hb1'.cell (p := ⟨b, 0, none⟩) hblt]; exact c0, by rw [hb1'.cell (p := ⟨b, 2, none⟩) hblt]; exact c2⟩
 refine hK _ _ hS' ?_
 clear hK hS
 try simp only [Act.put, zq1, zq2, zq3, zq4, zq5, zq6]
 refine anyX_last (by kernel_rfl) (by kernel_rfl) rfl rfl ?_
 try simp only [zq1, zq2, zq3]
 go_simp
 try apply_assumption
 obtain ⟨s0, s2⟩ := hS'
 have HB1 := Lib.hid hb1'
 clear hb1 hb1' c0 c2 HDF
 by_cases hI0 : 0 <= I
 ·have hres := HMN.out
  rw [if_pos hI0] at hres
  rw [hres]
  clear hres HMN
  have hq : decide (I < 0) = false := by simpa using hI0
  obtain ⟨i, rfl⟩ : ∃ i : Nat, I = i := ⟨I.toNat, by omega⟩
  have hik : i < k := by omega
  obtain ⟨g, o, u, hau, hcu, hru⟩ := HS4.out i hik
  subst hau
  have hcu1 : w1.cell? ⟨g, o + i, none⟩ = some u := by rw [HB1.out.cell (p := ⟨g, o + i, none⟩) (World.block_lt_of_cell? w _ hcu)]; exact hcu
  have hru1 := hru.below HB1.out
  have hsh : (ss.getD i []).length <= 557056 := by
   have hi' : i < ss.length := by rw [HKK.out]; exact hik
   rw [List.getD_eq_getElem?_getD, List.getElem?_eq_getElem hi']
   exact (HRT.out _ (List.getElem_mem hi')).short
  have hcl := cloneP_any hru1 (by omega)
  obtain ⟨ua, ucap, rfl, -⟩ := hru.form
  obtain ⟨L, hL⟩ : ∃ L, ss.getD i [] = L := ⟨_, rfl⟩
  rw [show ((i : Int).toNat) = i by omega, hL]
  rw [hL] at hcl hcu1
  obtain ⟨nL, hnL⟩ : ∃ nL, L.length = nL := ⟨_, rfl⟩
  rw [hnL] at hcl hcu1
  have HCL := Lib.hid hcl
  clear hcl hru hru1 hsh hcu HS4 hL hnL
  go_wp2_with fail
  refine HCL.out.mono ?_
  rintro e w2 ⟨v, rfl, ho, hb2⟩
  have HO := Lib.hid ho; have HB2 := Lib.hid hb2; clear ho hb2
  go_wp2_with fail
  go_ret
  exact Tells.from_ HB1.out ⟨v, rfl, HO.out, HB2.out⟩
 ·have hres := HMN.out
  rw [if_neg hI0] at hres
  rw [hres]
  clear hres HMN
  have hq : decide (I < 0) = true := by simp; omega
  have hI1 : I < 0 := by omega
  clear HS4
  go_wp2_with fail
  go_ret
  exact ⟨_, rfl, OwnP.nil _ _, HB1.out⟩
end Go.Proofs.YtalgnnidhnhciaaGreatDoor
namespace Go.Proofs.YtalgnnidhnhciaaGreatDoor
open Go Go.RowKit
attribute [local go_sem] field_sign2 field_sign3
def NamesB (w : World) (b : Nat) (df : Value) (D : List Bs) : Prop := Names w (fun g => g ≠ b) df D /\ D.length <= 12
section
variable {w w' : World} {b : Nat} {s : ByteArray} {x : X} {df rl : Value} {dp : Int} {D : List Bs}
theorem NamesB.keep (h : NamesB w b df D) (hk : ∀ g, g ≠ b -> ∀ i y, w.cell? ⟨g, i, none⟩ = some y -> w'.cell? ⟨g, i, none⟩ = some y) : NamesB w' b df D := ⟨h.1.keep (fun _ hg => hg) hk, h.2⟩
theorem NamesB.alloc (h : NamesB w b df D) (o : Obj) : NamesB (w.alloc o) b df D := h.keep fun g _ i y hy => by rw [World.cell?_alloc_past o _ _ (World.block_lt_of_cell? w _ hy)]; exact hy
theorem NamesB.grown (h : NamesB w b df D) (hg : w.grownBy w' (some b)) : NamesB w' b df D := h.keep fun g hne i y hy => hg.cell hy (fun e => hne (by injection e))
theorem NamesB.below (h : NamesB w b df D) (hb : Below w.heap.size w w') : NamesB w' b df D := h.keep fun g _ i y hy => by rw [hb.cell (p := ⟨g, i, none⟩) (World.block_lt_of_cell? w _ hy)]; exact hy
theorem St.kind (h : St w b s x df rl dp) : w.cell? ⟨b, 2, none⟩ = some (.int .i64 (kX x)) := by
 obtain ⟨p, h1, h2, _⟩ := h.ex
 rw [<- h2.kind]; exact h1.c2
theorem St.num (h : St w b s x df rl dp) : ∃ n : Int, w.cell? ⟨b, 5, none⟩ = some (.int .i64 n) /\ ∀ ts, x = .ok ts -> n = (hd ts).n := by
 obtain ⟨p, h1, h2, _⟩ := h.ex
 exact ⟨p.n, h1.c5, fun ts e => by subst e; exact h2.at_.2.2.2.2.2⟩
theorem St.word (h : St w b s x df rl dp) : ∃ n : ByteArray, w.cell? ⟨b, 4, none⟩ = some (.string n) /\ ∀ ts, x = .ok ts -> n.data.toList = (hd ts).word := by
 obtain ⟨p, h1, h2, _⟩ := h.ex
 exact ⟨p.word, h1.c4, fun ts e => by subst e; exact h2.at_.2.2.2.2.1⟩
theorem St.defs (h : St w b s x df rl dp) : w.cell? ⟨b, 9, none⟩ = some df := by
 obtain ⟨p, h1, h2, h3, _⟩ := h.ex
 rw [<- h3]; exact h1.c9
theorem St.deep (h : St w b s x df rl dp) : w.cell? ⟨b, 11, none⟩ = some (.int .i64 dp) /\ w.frozen? ⟨b, 11, none⟩ = false := by
 obtain ⟨p, h1, h2, h3, h4, h5⟩ := h.ex
 rw [<- h5]; exact ⟨h1.c11, h1.fz 11⟩
theorem St.setDeep (h : St w b s x df rl dp) (d : Int) : St (w.setCell ⟨b, 11, none⟩ (.int .i64 d)) b s x df rl d := by
 have hl := h.lt
 obtain ⟨⟨p, h1, h2, h3, h4, h5⟩, hE, hlt, hn⟩ := h
 refine ⟨⟨_, h1.set11 d, ?_, h3, h4, rfl⟩, hE.keep fun y hy => ?_, hlt, hn⟩
 ·cases x <;> exact h2
 ·rw [World.cell?_setCell_other _ _ _ _ (fun e => by injection e with e1 e2; omega)]; exact hy
theorem step_err {e : Nat} {ts : Toks} (h : St w b s (.error (e, ts)) df rl dp) (he : e ≠ 1) : Calls Tryz.prog 40 #[.pointer (some ⟨b, 0, none⟩)] w (Moves w b s (.error (e, ts)) df rl dp) := by
 have h' := h
 obtain ⟨⟨p, h1, h2, h3, h4, h5⟩, hE, hlt, hn⟩ := h
 obtain ⟨g1, g2, g3⟩ := h2
 have hpe : p.e ≠ 0 := by
  rcases g3 with ⟨a1, a2, _⟩ | ⟨a1, _⟩
  ·rw [a1]; omega
  ·exact absurd a1 he
 refine (step_bad w b s p h1 hpe).mono ?_
 rintro e w' ⟨rfl, hL, hg⟩
 exact ⟨rfl, ⟨⟨p, hL, ⟨g1, g2, g3⟩, h3, h4, h5⟩, hE.grown hg (by omega), hlt, hn⟩, hg⟩
end
def TakesY (w : World) (b : Nat) (s : ByteArray) (x y : X) (k : Nat) (df rl : Value) (dp : Int) (e : Ending) (w' : World) : Prop :=
 ∃ (kk aa n : Int) (wd : ByteArray) (lg : Bool), e = .returned (.agg #[.int .i64 kk, .int .i64 aa, .string wd, .int .i64 n, .bool lg]) /\
   (∀ ts, x = .ok ts -> kd ts = k -> wd.data.toList = (hd ts).word /\ n = (hd ts).n) /\ St w' b s y df rl dp /\ w.grownBy w' (some b)
theorem take_y {w : World} {b : Nat} {s : ByteArray} {x : X} {df rl : Value} {dp : Int} (h : St w b s x df rl dp) (k : Nat) (y : X) (hy : x.on (tk k) = y) (hk : k ≠ 256) (hk2 : k ≠ 257) (K : Int) (hK : (k : Int) = K) :
  Calls Tryz.prog 77 #[.pointer (some ⟨b, 0, none⟩), .int .i64 K] w (TakesY w b s x y k df rl dp) := by
  subst hK
  refine (take_st h k hk hk2).mono ?_
  rintro e w' ⟨kk, aa, n, wd, lg, e1, e2, e3, e4⟩
  exact ⟨kk, aa, n, wd, lg, e1, e2, by rw [<- hy]; exact e3, e4⟩
def entX (dp : Int) (ts : Toks) : X := if dp = 12 then .error (2, ts) else nxt ts
theorem enter_st {w : World} {b : Nat} {s : ByteArray} {ts : Toks} {df rl : Value} {dp : Int} (h : St w b s (.ok ts) df rl dp) (hk : kd ts ≠ 256) (h0 : 0 <= dp) (h1 : dp <= 12) :
  Calls Tryz.prog 177 #[.pointer (some ⟨b, 0, none⟩)] w (Moves w b s (entX dp ts) df rl (dp + 1)) := by
  obtain ⟨c11, f11⟩ := h.deep
  have hblt := h.blt
  by_cases hd : dp = 12
  ·have he : entX dp ts = .error (2, ts) := by simp [entX, hd]
   rw [he]
   subst hd
   have hf := fail_st h 2 (by omega)
   have HF := Lib.hid hf; clear hf he h
   go_enter Tryz.func177, Tryz.ntmps177
   go_wp2_with fail
   refine HF.out.mono ?_
   rintro e w1 ⟨rfl, hS, hg⟩
   obtain ⟨d11, g11⟩ := hS.deep
   have hs2 := hS.setDeep 13
   have hst := step_err hs2 (by omega)
   have HST := Lib.hid hst; have HG := Lib.hid hg; clear hst hs2 hS hg
   go_wp2_with fail
   refine HST.out.mono ?_
   rintro e w2 ⟨rfl, hS2, hg2⟩
   have HS2 := Lib.hid hS2; have HG2 := Lib.hid hg2; clear hS2 hg2
   go_wp2_with fail
   go_end0
   exact ⟨rfl, HS2.out, only_trans (only_setCell HG.out (.inl rfl) _) HG2.out⟩
  ·have he : entX dp ts = nxt ts := by simp [entX, hd]
   rw [he]
   have q : (dp == 12) = false := by simpa using hd
   have hs2 := h.setDeep (dp + 1)
   have hst := step_st hs2 hk
   have HST := Lib.hid hst; clear hst he h hs2 hd
   go_enter Tryz.func177, Tryz.ntmps177
   go_wp2_with fail
   refine HST.out.mono ?_
   rintro e w2 ⟨rfl, hS2, hg2⟩
   have HS2 := Lib.hid hS2; have HG2 := Lib.hid hg2; clear hS2 hg2
   go_wp2_with fail
   go_end0
   exact ⟨rfl, HS2.out, only_trans (only_setCell (only_refl _ _) (.inl rfl) _) HG2.out⟩
def Words (w : World) (b : Nat) (s : ByteArray) (x y : X) (df rl : Value) (dp : Int) (e : Ending) (w' : World) : Prop :=
 ∃ wd : ByteArray, e = .returned (.string wd) /\ (∀ ts ts', x = .ok ts -> y = .ok ts' -> wd.data.toList = (hd ts).word) /\ St w' b s y df rl dp /\ w.grownBy w' (some b)
def freshX (D : List Bs) (x : X) : X := x.on fun ts => if kd ts == 258 && D.contains (hd ts).word then .error (9, ts) else tk 258 ts
theorem freshX_in {D : List Bs} {ts : Toks} (hk : kd ts = 258) (h : (hd ts).word ∈ D) : freshX D (.ok ts) = .error (9, ts) := by simp [freshX, hk, h]
theorem freshX_out {D : List Bs} {ts : Toks} (hk : kd ts = 258) (h : (hd ts).word ∉ D) : freshX D (.ok ts) = nxt ts := by simp [freshX, hk, h, tk]
theorem freshX_no {D : List Bs} {x : X} (hk : kX x ≠ 258) : freshX D x = x.on (tk 258) := by
 cases x with
 | error e => rfl
 | ok ts =>
   have : kd ts ≠ 258 := fun e => hk (by simp [kX, e])
   simp [freshX, this]
theorem known_ok {w : World} {b : Nat} {s : ByteArray} {ts : Toks} {df rl : Value} {dp : Int} {D : List Bs} (h : St w b s (.ok ts) df rl dp) (hk : kd ts = 258) (hN : NamesB w b df D) :
  Calls Tryz.prog 198 #[.pointer (some ⟨b, 0, none⟩)] w (Words w b s (.ok ts) (knownX D ts) df rl dp) := by
  have hblt := h.blt
  have c2 := h.kind
  obtain ⟨wd, c4, hwd'⟩ := h.word
  have hwd := hwd' ts rfl
  have c9 := h.defs
  have hkx : kX (.ok ts) = 258 := by simp [kX, hk]
  rw [hkx] at c2
  have hdef := fun (W : World) (hW : NamesB W b df D) => defined_any W (fun g => g ≠ b /\ g < W.heap.size) df D wd (by
   obtain ⟨A, c, e1, e2, e3, e4, e5⟩ := hW.1
   exact ⟨A, c, e1, e2, e3, e4, fun i hi => by
    obtain ⟨g, o, a1, a2, a3, a4⟩ := e5 i hi
    exact ⟨g, o, a1, ⟨a2, a3⟩, a3, a4⟩⟩) (fun g hg => hg.2) (by have := hW.2; omega)
  have hix := ixN_mem D wd.data.toList
  rw [hwd] at hix hdef
  obtain ⟨I, hI⟩ : ∃ I, ixN D (hd ts).word = I := ⟨_, rfl⟩
  rw [hI] at hix hdef
  have hdf : ∃ A n c, df = .slice A n c := by
   obtain ⟨A, c, e1, _⟩ := hN.1
   exact ⟨A, _, c, e1⟩
  obtain ⟨dA, dn, dc, rfl⟩ := hdf
  have HDEF := Lib.hid hdef; have HS := Lib.hid h; have HN := Lib.hid hN; have HW := Lib.hid hwd; have HI := Lib.hid hI
  clear hdef h hN hwd hI hkx hwd'
  have hkk : ∀ (W : World), Below w.drew.heap.size w.drew W -> W.cell? ⟨b, 2, none⟩ = some (.int .i64 258) /\ W.cell? ⟨b, 4, none⟩ = some (.string wd) /\ W.cell? ⟨b, 9, none⟩ = some (.slice dA dn dc) := fun W hW =>
   ⟨(hW.cell (p := ⟨b, 2, none⟩) hblt).trans c2, (hW.cell (p := ⟨b, 4, none⟩) hblt).trans c4, (hW.cell (p := ⟨b, 9, none⟩) hblt).trans c9⟩
  have HKK := Lib.hid hkk; clear hkk
  have cd : w.drew.cell? ⟨b, 2, none⟩ = some (.int .i64 258) /\ w.drew.cell? ⟨b, 4, none⟩ = some (.string wd) /\ w.drew.cell? ⟨b, 9, none⟩ = some (.slice dA dn dc) := ⟨c2, c4, c9⟩
  have hNd : NamesB w.drew b (.slice dA dn dc) D := HN.out
  have CD := Lib.hid cd; have HND := Lib.hid hNd; clear cd hNd
  by_cases hin : (hd ts).word ∈ D
  ·have hI0 : 0 <= I := hix.2 hin
   have q1 : decide (I < 0) = false := by simp; omega
   rw [show knownX D ts = nxt ts by simp [knownX, hin]]
   clear hix hin
   go_enter Tryz.func198, Tryz.ntmps198
   go_wp2_with fail
   go_region_held3 (fun W => W.cell? ⟨b, 2, none⟩ = some (.int .i64 258) /\ W.cell? ⟨b, 4, none⟩ = some (.string wd) /\ W.cell? ⟨b, 9, none⟩ = some (.slice dA dn dc))
    (with_reducible (first | exact ⟨c2, c4, c9⟩ | exact CD.out | exact HK2.out))
    (first
     | (go_at_call 93; (with_reducible refine (HDEF.out w.drew HND.out).mono ?_)
        rintro e w2 ⟨rfl, hb2⟩
        have HK2 := Lib.hid (HKK.out w2 hb2)
        have HB2 := Lib.hid hb2
        clear hb2))
   have HS2 := Lib.hid ((HS.out.drew).below HB2.out)
   have HG2 := Lib.hid (only_below (only_drew (only_refl w (some b))) HB2.out)
   have HX2 := Lib.hid HK2.out
   clear HK2 CD c2 c4 c9 HKK
   have hto : X.on (.ok ts) (tk 258) = nxt ts := by simp [tk, hk]
   have htk := take_st HS2.out 258 (by omega) (by omega)
   rw [show ((258 : Nat) : Int) = 258 from rfl] at htk
   have HTK := Lib.hid htk; have HTO := Lib.hid hto; clear htk hto
   go_wp2_with fail
   refine HTK.out.mono ?_
   rintro e w3 ⟨kk, aa, n3, wd3, lg3, rfl, hw3, hS3, hg3⟩
   have HW3 := Lib.hid hw3; have HS3 := Lib.hid hS3; have HG3 := Lib.hid hg3; clear hw3 hS3 hg3
   go_wp2_with fail
   go_ret
   have hS3' := HS3.out
   rw [HTO.out] at hS3'
   exact ⟨wd3, rfl, fun ts' _ e _ => by cases e; exact (HW3.out ts rfl hk).1, hS3', only_trans HG2.out HG3.out⟩
  ·have hI0 : I < 0 := by
    rcases Int.lt_or_le I 0 with h1 | h1
    ·exact h1
    ·exact absurd (hix.1 h1) hin
   have q1 : decide (I < 0) = true := by simp; omega
   rw [show knownX D ts = .error (8, ts) by simp [knownX, hin]]
   clear hix hin
   go_enter Tryz.func198, Tryz.ntmps198
   go_wp2_with fail
   go_region_held3 (fun W => W.cell? ⟨b, 2, none⟩ = some (.int .i64 258) /\ W.cell? ⟨b, 4, none⟩ = some (.string wd) /\ W.cell? ⟨b, 9, none⟩ = some (.slice dA dn dc))
    (with_reducible (first | exact ⟨c2, c4, c9⟩ | exact CD.out | exact HK2.out))
    (first
     | (go_at_call 93; (with_reducible refine (HDEF.out w.drew HND.out).mono ?_)
        rintro e w2 ⟨rfl, hb2⟩
        have HK2 := Lib.hid (HKK.out w2 hb2)
        have HB2 := Lib.hid hb2
        clear hb2))
   have HS2 := Lib.hid ((HS.out.drew).below HB2.out)
   have HG2 := Lib.hid (only_below (only_drew (only_refl w (some b))) HB2.out)
   have HX2 := Lib.hid HK2.out
   clear HK2 CD c2 c4 c9 HKK
   have hf := fail_st HS2.out 8 (by omega)
   rw [show ((8 : Nat) : Int) = 8 from rfl] at hf
   have HF := Lib.hid hf; clear hf
   go_wp2_with fail
   refine HF.out.mono ?_
   rintro e w3 ⟨rfl, hS3, hg3⟩
   have htk := take_st hS3 258 (by omega) (by omega)
   rw [show ((258 : Nat) : Int) = 258 from rfl] at htk
   have HTK := Lib.hid htk; have HG3 := Lib.hid hg3; clear htk hS3 hg3
   go_wp2_with fail
   refine HTK.out.mono ?_
   rintro e w4 ⟨kk, aa, n4, wd4, lg4, rfl, -, hS4, hg4⟩
   have HS4 := Lib.hid hS4; have HG4 := Lib.hid hg4; clear hS4 hg4
   go_wp2_with fail
   go_ret
   exact ⟨wd4, rfl, (fun _ _ _ e => by cases e), HS4.out, only_trans (only_trans HG2.out HG3.out) HG4.out⟩
theorem fresh_ok {w : World} {b : Nat} {s : ByteArray} {ts : Toks} {df rl : Value} {dp : Int} {D : List Bs} (h : St w b s (.ok ts) df rl dp) (hk : kd ts = 258) (hN : NamesB w b df D) :
  Calls Tryz.prog 99 #[.pointer (some ⟨b, 0, none⟩)] w (Words w b s (.ok ts) (freshX D (.ok ts)) df rl dp) := by
  have hblt := h.blt
  have c2 := h.kind
  obtain ⟨wd, c4, hwd'⟩ := h.word
  have hwd := hwd' ts rfl
  have c9 := h.defs
  have hkx : kX (.ok ts) = 258 := by simp [kX, hk]
  rw [hkx] at c2
  have hdef := fun (W : World) (hW : NamesB W b df D) => defined_any W (fun g => g ≠ b /\ g < W.heap.size) df D wd (by
   obtain ⟨A, c, e1, e2, e3, e4, e5⟩ := hW.1
   exact ⟨A, c, e1, e2, e3, e4, fun i hi => by
    obtain ⟨g, o, a1, a2, a3, a4⟩ := e5 i hi
    exact ⟨g, o, a1, ⟨a2, a3⟩, a3, a4⟩⟩) (fun g hg => hg.2) (by have := hW.2; omega)
  have hix := ixN_mem D wd.data.toList
  rw [hwd] at hix hdef
  obtain ⟨I, hI⟩ : ∃ I, ixN D (hd ts).word = I := ⟨_, rfl⟩
  rw [hI] at hix hdef
  have hdf : ∃ A n c, df = .slice A n c := by
   obtain ⟨A, c, e1, _⟩ := hN.1
   exact ⟨A, _, c, e1⟩
  obtain ⟨dA, dn, dc, rfl⟩ := hdf
  have HDEF := Lib.hid hdef; have HS := Lib.hid h; have HN := Lib.hid hN; have HW := Lib.hid hwd; have HI := Lib.hid hI
  clear hdef h hN hwd hI hkx hwd'
  have hkk : ∀ (W : World), Below w.drew.heap.size w.drew W -> W.cell? ⟨b, 2, none⟩ = some (.int .i64 258) /\ W.cell? ⟨b, 4, none⟩ = some (.string wd) /\ W.cell? ⟨b, 9, none⟩ = some (.slice dA dn dc) := fun W hW =>
   ⟨(hW.cell (p := ⟨b, 2, none⟩) hblt).trans c2, (hW.cell (p := ⟨b, 4, none⟩) hblt).trans c4, (hW.cell (p := ⟨b, 9, none⟩) hblt).trans c9⟩
  have HKK := Lib.hid hkk; clear hkk
  have cd : w.drew.cell? ⟨b, 2, none⟩ = some (.int .i64 258) /\ w.drew.cell? ⟨b, 4, none⟩ = some (.string wd) /\ w.drew.cell? ⟨b, 9, none⟩ = some (.slice dA dn dc) := ⟨c2, c4, c9⟩
  have hNd : NamesB w.drew b (.slice dA dn dc) D := HN.out
  have CD := Lib.hid cd; have HND := Lib.hid hNd; clear cd hNd
  by_cases hin : (hd ts).word ∈ D
  ·have hI0 : 0 <= I := hix.2 hin
   have q1 : decide (0 <= I) = true := by simp; omega
   rw [freshX_in hk hin]
   clear hix hin
   go_enter Tryz.func99, Tryz.ntmps99
   go_wp2_with fail
   go_region_held3 (fun W => W.cell? ⟨b, 2, none⟩ = some (.int .i64 258) /\ W.cell? ⟨b, 4, none⟩ = some (.string wd) /\ W.cell? ⟨b, 9, none⟩ = some (.slice dA dn dc))
    (with_reducible (first | exact ⟨c2, c4, c9⟩ | exact CD.out | exact HK2.out))
    (first
     | (go_at_call 93; (with_reducible refine (HDEF.out w.drew HND.out).mono ?_)
        rintro e w2 ⟨rfl, hb2⟩
        have HK2 := Lib.hid (HKK.out w2 hb2)
        have HB2 := Lib.hid hb2
        clear hb2))
   have HS2 := Lib.hid ((HS.out.drew).below HB2.out)
   have HG2 := Lib.hid (only_below (only_drew (only_refl w (some b))) HB2.out)
   have HX2 := Lib.hid HK2.out
   clear HK2 CD c2 c4 c9 HKK
   have hf := fail_st HS2.out 9 (by omega)
   rw [show ((9 : Nat) : Int) = 9 from rfl] at hf
   have HF := Lib.hid hf; clear hf
   go_wp2_with fail
   refine HF.out.mono ?_
   rintro e w3 ⟨rfl, hS3, hg3⟩
   have htk := take_st hS3 258 (by omega) (by omega)
   rw [show ((258 : Nat) : Int) = 258 from rfl] at htk
   have HTK := Lib.hid htk; have HG3 := Lib.hid hg3; clear htk hS3 hg3
   go_wp2_with fail
   refine HTK.out.mono ?_
   rintro e w4 ⟨kk, aa, n4, wd4, lg4, rfl, -, hS4, hg4⟩
   have HS4 := Lib.hid hS4; have HG4 := Lib.hid hg4; clear hS4 hg4
   go_wp2_with fail
   go_ret
   exact ⟨wd4, rfl, (fun _ _ _ e => by cases e), HS4.out, only_trans (only_trans HG2.out HG3.out) HG4.out⟩
  ·have hI0 : I < 0 := by
    rcases Int.lt_or_le I 0 with h1 | h1
    ·exact h1
    ·exact absurd (hix.1 h1) hin
   have q1 : decide (0 <= I) = false := by simp; omega
   rw [freshX_out hk hin]
   clear hix hin
   go_enter Tryz.func99, Tryz.ntmps99
   go_wp2_with fail
   go_region_held3 (fun W => W.cell? ⟨b, 2, none⟩ = some (.int .i64 258) /\ W.cell? ⟨b, 4, none⟩ = some (.string wd) /\ W.cell? ⟨b, 9, none⟩ = some (.slice dA dn dc))
    (with_reducible (first | exact ⟨c2, c4, c9⟩ | exact CD.out | exact HK2.out))
    (first
     | (go_at_call 93; (with_reducible refine (HDEF.out w.drew HND.out).mono ?_)
        rintro e w2 ⟨rfl, hb2⟩
        have HK2 := Lib.hid (HKK.out w2 hb2)
        have HB2 := Lib.hid hb2
        clear hb2))
   have HS2 := Lib.hid ((HS.out.drew).below HB2.out)
   have HG2 := Lib.hid (only_below (only_drew (only_refl w (some b))) HB2.out)
   have HX2 := Lib.hid HK2.out
   clear HK2 CD c2 c4 c9 HKK
   have hto : X.on (.ok ts) (tk 258) = nxt ts := by simp [tk, hk]
   have htk := take_st HS2.out 258 (by omega) (by omega)
   rw [show ((258 : Nat) : Int) = 258 from rfl] at htk
   have HTK := Lib.hid htk; have HTO := Lib.hid hto; clear htk hto
   go_wp2_with fail
   refine HTK.out.mono ?_
   rintro e w3 ⟨kk, aa, n3, wd3, lg3, rfl, hw3, hS3, hg3⟩
   have HW3 := Lib.hid hw3; have HS3 := Lib.hid hS3; have HG3 := Lib.hid hg3; clear hw3 hS3 hg3
   go_wp2_with fail
   go_ret
   have hS3' := HS3.out
   rw [HTO.out] at hS3'
   exact ⟨wd3, rfl, fun ts' _ e _ => by cases e; exact (HW3.out ts rfl hk).1, hS3', only_trans HG2.out HG3.out⟩
theorem fresh_no {w : World} {b : Nat} {s : ByteArray} {x : X} {df rl : Value} {dp : Int} {D : List Bs} (h : St w b s x df rl dp) (hk : kX x ≠ 258) :
  Calls Tryz.prog 99 #[.pointer (some ⟨b, 0, none⟩)] w (Words w b s x (freshX D x) df rl dp) := by
  have hblt := h.blt
  have c2 := h.kind
  have q1 : (kX x == 258) = false := by simpa using hk
  rw [freshX_no hk]
  have hno : ∀ ts ts', x = .ok ts -> x.on (tk 258) = .ok ts' -> False := fun ts ts' e e2 => by
   subst e
   have : kd ts ≠ 258 := fun e => hk (by simp [kX, e])
   simp [tk, this] at e2
  have HNO := Lib.hid hno; have HS := Lib.hid h; clear hno h hk
  go_enter Tryz.func99, Tryz.ntmps99
  go_wp2_with fail
  go_quiet (fail)
  have htk := take_st (HS.out.drewN nq) 258 (by omega) (by omega)
  rw [show ((258 : Nat) : Int) = 258 from rfl] at htk
  have HTK := Lib.hid htk; clear htk
  go_wp2_with fail
  refine HTK.out.mono ?_
  rintro e w4 ⟨kk, aa, n4, wd4, lg4, rfl, -, hS4, hg4⟩
  have HS4 := Lib.hid hS4; have HG4 := Lib.hid hg4; clear hS4 hg4
  go_wp2_with fail
  go_ret
  exact ⟨wd4, rfl, fun ts ts' e e2 => (HNO.out ts ts' e e2).elim, HS4.out, only_trans (only_drewN (only_refl _ _) _) HG4.out⟩
theorem fresh_st {w : World} {b : Nat} {s : ByteArray} {x : X} {df rl : Value} {dp : Int} {D : List Bs} (h : St w b s x df rl dp) (hN : NamesB w b df D) :
  Calls Tryz.prog 99 #[.pointer (some ⟨b, 0, none⟩)] w (Words w b s x (freshX D x) df rl dp) := by
  by_cases hk : kX x = 258
  ·cases x with
   | ok ts => exact fresh_ok h (Int.ofNat.inj hk) hN
   | error e => exact absurd hk (by simp [kX])
  ·exact fresh_no h hk
end Go.Proofs.YtalgnnidhnhciaaGreatDoor
