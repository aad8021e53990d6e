/- The reader by what is left: the whole table. The reader's whole table is the plain reader's. A table in blocks of its own is a table. -/
import Derived.Test.YtjkcglgkdclidaaVTableV
set_option linter.unusedVariables false
set_option linter.unusedSimpArgs false
set_option maxRecDepth 100000
set_option maxHeartbeats 4000000
namespace Go.Proofs.Ytjkcglgkdclidaa
open Go Go.RowKit Go.Proofs
theorem own_ge {w : World} {B n k : Nat} {v : Value} {l : List Int} (h : Own w B v n l) (hk : v.ownBlock = some k) : B <= k := by
 rcases h.2 with ⟨rfl, _⟩ | ⟨g, cap, cur, rfl, hg, _⟩
 ·cases hk
 ·simp only [Value.ownBlock, Option.some.injEq] at hk
  subst hk; exact hg
theorem own_mono {w : World} {B B' n : Nat} {v : Value} {l : List Int} (h : Own w B v n l) (hb : B' <= B) : Own w B' v n l := by
 obtain ⟨h1, h2⟩ := h
 refine ⟨h1, ?_⟩
 rcases h2 with h2 | ⟨g, cap, cur, e, hg, r⟩
 ·exact .inl h2
 ·exact .inr ⟨g, cap, cur, e, Nat.le_trans hb hg, r⟩
def IntRows (w : World) (B : Nat) (v : Value) (l : List (List Int)) : Prop := ∃ g f, v = sl g l.length l.length /\ B <= g /\ Blk w g 22 (valsA l.length f) /\ ∀ i, i < l.length -> Own w B (f i) (l.getD i []).length (l.getD i [])
def VecRows (w : World) (B : Nat) (v : Value) (l : List (List V3)) : Prop := ∃ g f, v = sl g l.length l.length /\ B <= g /\ Blk w g 46 (valsA l.length f) /\ ∀ i, i < l.length -> VecRow w B (f i) (l.getD i [])
def IntRow (w : World) (B : Nat) (v : Value) (l : List Int) : Prop := ∃ g, v = sl g l.length l.length /\ Own w B v l.length l
section
variable {w w' : World} {B B' b g i : Nat} {v u : Value} {t : TypeId} {cs : Array Value}
theorem IntRow.fr {l : List Int} (h : IntRow w B v l) (hf : Fr (fun q => q = b) w w') (hb : b < B) : IntRow w' B v l := by
 obtain ⟨g, e, ho⟩ := h
 exact ⟨g, e, hf.own ho (fun k hk e => by have := own_ge ho hk; omega)⟩
theorem IntRow.mono {l : List Int} (h : IntRow w B v l) (hb : B' <= B) : IntRow w B' v l := by
 obtain ⟨g, e, ho⟩ := h
 exact ⟨g, e, own_mono ho hb⟩
theorem IntRow.set_ {l : List Int} (h : IntRow w B v l) (hg : Blk w g t cs) (ht : t ≠ 3) : IntRow (w.setCell ⟨g, i, none⟩ u) B v l := by
 obtain ⟨g', e, ho⟩ := h
 exact ⟨g', e, ownSet ho hg ht⟩
theorem IntRows.fr {l : List (List Int)} (h : IntRows w B v l) (hf : Fr (fun q => q = b) w w') (hb : b < B) : IntRows w' B v l := by
 obtain ⟨g, f, e, hg, hx, hv⟩ := h
 exact ⟨g, f, e, hg, hf.blk hx (fun e => by omega), fun i hi => hf.own (hv i hi) (fun k hk e => by have := own_ge (hv i hi) hk; omega)⟩
theorem IntRows.mono {l : List (List Int)} (h : IntRows w B v l) (hb : B' <= B) : IntRows w B' v l := by
 obtain ⟨g, f, e, hg, hx, hv⟩ := h
 exact ⟨g, f, e, Nat.le_trans hb hg, hx, fun i hi => own_mono (hv i hi) hb⟩
theorem IntRows.set_ {l : List (List Int)} (h : IntRows w B v l) (hg : Blk w g t cs) (ht : t ≠ 3) (ht2 : t ≠ 22) : IntRows (w.setCell ⟨g, i, none⟩ u) B v l := by
 obtain ⟨g', f, e, hg', hx, hv⟩ := h
 exact ⟨g', f, e, hg', blkSet hx hg ht2, fun i hi => ownSet (hv i hi) hg ht⟩
theorem VecRow.mono {l : List V3} (h : VecRow w B v l) (hb : B' <= B) : VecRow w B' v l := by
 obtain ⟨g, f, e, hg, hx, hv⟩ := h
 exact ⟨g, f, e, Nat.le_trans hb hg, hx, hv⟩
theorem VecRows.mono {l : List (List V3)} (h : VecRows w B v l) (hb : B' <= B) : VecRows w B' v l := by
 obtain ⟨g, f, e, hg, hx, hv⟩ := h
 exact ⟨g, f, e, Nat.le_trans hb hg, hx, fun i hi => (hv i hi).mono hb⟩
theorem VecRows.set_ {l : List (List V3)} (h : VecRows w B v l) (hg : Blk w g t cs) (ht : t ≠ 45) (ht2 : t ≠ 46) : VecRows (w.setCell ⟨g, i, none⟩ u) B v l := by
 obtain ⟨g', f, e, hg', hx, hv⟩ := h
 exact ⟨g', f, e, hg', blkSet hx hg ht2, fun i hi => (hv i hi).set_ hg ht⟩
end
structure TabO (w : World) (B : Nat) (vc vl vbn vbo vfn vfe : Value) (t : Tab) : Prop where
 c : IntRow w B vc t.cuts
 l : IntRow w B vl t.letters
 bn : IntRows w B vbn t.bn
 bo : IntRow w B vbo t.bo
 fn : IntRows w B vfn t.fn
 fe : VecRows w B vfe t.fe
def AllSl (cs : Array Value) : Prop := ∀ v ∈ cs, ∃ a m c, v = .slice a m c
theorem AllSl.set_ {cs : Array Value} (h : AllSl cs) (i : Nat) {u : Value} (hu : ∃ a m c, u = .slice a m c) : AllSl (cs.setIfInBounds i u) := by
 intro v hv
 rcases Array.mem_or_eq_of_mem_setIfInBounds hv with h1 | h1
 ·exact h v h1
 ·subst h1; exact hu
theorem RdSt.box {w : World} {b n cap g i : Nat} {A : Option Addr} {bs : List Int} {rest : Option (List Int)} {t : TypeId} {cs : Array Value} {u : Value} (h : RdSt w b A n cap bs rest) (hg : Blk w g t cs) (ht : t ≠ 77) (hs : AllSl cs) : RdSt (w.setCell ⟨g, i, none⟩ u) b A n cap bs rest := by
 have e : cs = valsA cs.size (fun j => if hj : j < cs.size then cs[j] else .slice none 0 0) := by
  unfold valsA
  apply Array.ext
  ·simp
  ·intro j h1 h2; simp [h1]
 rw [e] at hg
 refine h.vals hg ht (fun j => ?_)
 try dsimp only
 split
 ·rename_i hj; exact hs _ (Array.getElem_mem hj)
 ·exact ⟨_, _, _, rfl⟩
theorem TabO.set_ {w : World} {B g i : Nat} {vc vl vbn vbo vfn vfe u : Value} {t : Tab} {cs : Array Value} (h : TabO w B vc vl vbn vbo vfn vfe t) (hg : Blk w g 31 cs) : TabO (w.setCell ⟨g, i, none⟩ u) B vc vl vbn vbo vfn vfe t :=
 ⟨h.c.set_ hg (by decide), h.l.set_ hg (by decide), h.bn.set_ hg (by decide) (by decide), h.bo.set_ hg (by decide), h.fn.set_ hg (by decide) (by decide), h.fe.set_ hg (by decide) (by decide)⟩
structure RdTab (w0 : World) (b b1 : Nat) (A : Option Addr) (n cap : Nat) (bs : List Int) (r : Option (List Int)) (vc vl vbn vbo vfn vfe : Value) (t : Tab) (w : World) (cs : Array Value) : Prop where
 tab : TabO w w0.heap.size vc vl vbn vbo vfn vfe t
 rd : RdSt w b A n cap bs r
 fr : Fr (fun q => q = b) w0 w
 box : Blk w b1 31 cs
 sl : AllSl cs
theorem RdTab.set_ {w0 w : World} {b b1 n cap i : Nat} {A : Option Addr} {bs : List Int} {r : Option (List Int)} {vc vl vbn vbo vfn vfe u : Value} {t : Tab} {cs : Array Value} (h : RdTab w0 b b1 A n cap bs r vc vl vbn vbo vfn vfe t w cs) (hb : w0.heap.size <= b1) (hu : ∃ a m c, u = .slice a m c) :
  RdTab w0 b b1 A n cap bs r vc vl vbn vbo vfn vfe t (w.setCell ⟨b1, i, none⟩ u) (cs.setIfInBounds i u) :=
  ⟨h.tab.set_ h.box, h.rd.box h.box (by decide) h.sl, h.fr.set_ (p := ⟨b1, i, none⟩) (.inr hb) _, h.box.set_ i u, h.sl.set_ i hu⟩
theorem rtable_any {w : World} {b : Nat} {A : Option Addr} {n cap : Nat} {bs : List Int} {rest : Option (List Int)} (h : RdSt w b A n cap bs rest) (hn : n <= 8000000) :
  Calls Try.prog 35 #[.pointer (some ⟨b, 0, none⟩)] w fun e w' => ∃ t r, tableN rest = (t, r) /\ (∃ vc vl vbn vbo vfn vfe, e = .returned (.agg #[vc, vl, vbn, vbo, vfn, vfe]) /\ TabO w' w.heap.size vc vl vbn vbo vfn vfe ⟨t.1, t.2.1, t.2.2.1, t.2.2.2.1, t.2.2.2.2.1, t.2.2.2.2.2⟩) /\ RdSt w' b A n cap bs r /\ Fr (fun q => q = b) w w' := by
  have hbw : b < w.heap.size := by obtain ⟨a, br, hc, -⟩ := h; exact hc.x.lt
  obtain ⟨b1, hb1⟩ : ∃ b, b = w.heap.size := ⟨_, rfl⟩
  obtain ⟨W0, hW0⟩ : ∃ W, w.alloc (.cells #[.slice none 0 0, .slice none 0 0, .slice none 0 0, .slice none 0 0, .slice none 0 0, .slice none 0 0] 31) = W := ⟨_, rfl⟩
  have hB0 : Below w.heap.size w W0 := by rw [<- hW0]; exact (Below.refl _ _).alloc (Nat.le_refl _) _
  have X1 : Hid (Blk W0 b1 31 #[.slice none 0 0, .slice none 0 0, .slice none 0 0, .slice none 0 0, .slice none 0 0, .slice none 0 0]) := Lib.hid (by rw [<- hW0, hb1]; exact Blk.new _ _ _)
  obtain ⟨b2, hb2⟩ : ∃ b, b = W0.heap.size := ⟨_, rfl⟩
  have hS1 : b1 + 1 = b2 := by rw [hb2, <- hW0, World.size_alloc, hb1]
  obtain ⟨W1, hW1⟩ : ∃ W, W0.alloc (.cells #[.slice none 0 0, .slice none 0 0, .slice none 0 0, .slice none 0 0, .slice none 0 0, .slice none 0 0] 31) = W := ⟨_, rfl⟩
  have hB1 : Below W0.heap.size W0 W1 := by rw [<- hW1]; exact (Below.refl _ _).alloc (Nat.le_refl _) _
  have X2 : Hid (Blk W1 b2 31 #[.slice none 0 0, .slice none 0 0, .slice none 0 0, .slice none 0 0, .slice none 0 0, .slice none 0 0]) := Lib.hid (by rw [<- hW1, hb2]; exact Blk.new _ _ _)
  replace X1 := Lib.hid (Blk.below X1.out hB1 X1.out.lt)
  have HR := Lib.hid ((h.below hB0).below hB1)
  have HF : Hid (Fr (fun q => q = b) w W1) := Lib.hid (by rw [<- hW1, <- hW0]; exact ((Fr.refl _ _).alloc _).alloc _)
  have SL : Hid (AllSl #[.slice none 0 0, .slice none 0 0, .slice none 0 0, .slice none 0 0, .slice none 0 0, .slice none 0 0]) := Lib.hid (by intro v hv; simp at hv; exact ⟨_, _, _, hv⟩)
  have HW0 := Lib.hid hW0; have HW1 := Lib.hid hW1; have Eb1 := Lib.hid hb1; have HS1 := Lib.hid hS1
  have hq1 : w.heap.size <= b1 := by omega
  have hq2 : b1 < b2 := by omega
  clear h hW0 hW1 hb1 hb2 hS1 hB0 hB1
  go_enter Try.func35, Try.ntmps35
  go_wp2_with fail
  rw [HW0.out, HW1.out]
  rw [<- Eb1.out]
  try simp only [HS1.out]
  obtain ⟨l0, r1, e0⟩ : ∃ l r, listN rest = (l, r) := ⟨_, _, rfl⟩
  have hcl := list_any HR.out hn
  rw [e0] at hcl
  dsimp only at hcl
  have E0 := Lib.hid e0
  clear e0
  refine hcl.mono ?_
  clear hcl
  rintro e V0 ⟨g0, rfl, ho, hr, hf⟩
  have hsz := HF.out.size
  obtain ⟨m0, hm⟩ : ∃ m, l0.length = m := ⟨_, rfl⟩
  have P_c : Hid (IntRow V0 w.heap.size (sl g0 m0 m0) l0) := Lib.hid ⟨g0, by rw [hm], by rw [<- hm]; exact own_mono ho hsz⟩
  rw [hm]
  replace X1 := Lib.hid (hf.blk X1.out (fun e => by omega))
  replace X2 := Lib.hid (hf.blk X2.out (fun e => by omega))
  replace HF := Lib.hid (HF.out.trans hf)
  replace HR := Lib.hid hr
  clear hr hf hsz hm ho
  go_wp2_with fail
  obtain ⟨l1, r2, e1⟩ : ∃ l r, listN r1 = (l, r) := ⟨_, _, rfl⟩
  have hcl := list_any HR.out hn
  rw [e1] at hcl
  dsimp only at hcl
  have E1 := Lib.hid e1
  clear e1
  refine hcl.mono ?_
  clear hcl
  rintro e V1 ⟨g1, rfl, ho, hr, hf⟩
  have hsz := HF.out.size
  obtain ⟨m1, hm⟩ : ∃ m, l1.length = m := ⟨_, rfl⟩
  have P_l : Hid (IntRow V1 w.heap.size (sl g1 m1 m1) l1) := Lib.hid ⟨g1, by rw [hm], by rw [<- hm]; exact own_mono ho hsz⟩
  rw [hm]
  replace P_c := Lib.hid (P_c.out.fr hf hbw)
  replace X1 := Lib.hid (hf.blk X1.out (fun e => by omega))
  replace X2 := Lib.hid (hf.blk X2.out (fun e => by omega))
  replace HF := Lib.hid (HF.out.trans hf)
  replace HR := Lib.hid hr
  clear hr hf hsz hm ho
  have d0 : V1.cell? ⟨b2, 0, none⟩ = some (.slice none 0 0) := X2.out.cell 0
  have d1 : V1.cell? ⟨b2, 1, none⟩ = some (.slice none 0 0) := X2.out.cell 1
  have z0 := X2.out.frozen 0; have z1 := X2.out.frozen 1
  have Y2 : Hid (Blk (V1.setCell ⟨b2, 0, none⟩ (sl g0 m0 m0)) b2 31 #[(sl g0 m0 m0), .slice none 0 0, .slice none 0 0, .slice none 0 0, .slice none 0 0, .slice none 0 0]) := Lib.hid (X2.out.set_ 0 (sl g0 m0 m0))
  have SL1 := Lib.hid (SL.out.set_ 0 (u := (sl g0 m0 m0)) ⟨_, _, _, rfl⟩)
  have HR2 : Hid (RdSt ((V1.setCell ⟨b2, 0, none⟩ (sl g0 m0 m0)).setCell ⟨b2, 1, none⟩ (sl g1 m1 m1)) b A n cap bs r2) := Lib.hid ((HR.out.box X2.out (by decide) SL.out (i := 0) (u := (sl g0 m0 m0))).box Y2.out (by decide) SL1.out (i := 1) (u := (sl g1 m1 m1)))
  have SL2 := Lib.hid (SL1.out.set_ 1 (u := (sl g1 m1 m1)) ⟨_, _, _, rfl⟩)
  replace P_c := Lib.hid ((P_c.out.set_ (i := 0) (u := (sl g0 m0 m0)) X2.out (by decide)).set_ (i := 1) (u := (sl g1 m1 m1)) Y2.out (by decide))
  replace P_l := Lib.hid ((P_l.out.set_ (i := 0) (u := (sl g0 m0 m0)) X2.out (by decide)).set_ (i := 1) (u := (sl g1 m1 m1)) Y2.out (by decide))
  replace X1 : Hid (Blk ((V1.setCell ⟨b2, 0, none⟩ (sl g0 m0 m0)).setCell ⟨b2, 1, none⟩ (sl g1 m1 m1)) b1 31 #[.slice none 0 0, .slice none 0 0, .slice none 0 0, .slice none 0 0, .slice none 0 0, .slice none 0 0]) := Lib.hid ((X1.out.far (p := ⟨b2, 0, none⟩) (by show b1 ≠ b2; omega) (sl g0 m0 m0)).far (p := ⟨b2, 1, none⟩) (by show b1 ≠ b2; omega) (sl g1 m1 m1))
  replace X2 : Hid (Blk ((V1.setCell ⟨b2, 0, none⟩ (sl g0 m0 m0)).setCell ⟨b2, 1, none⟩ (sl g1 m1 m1)) b2 31 #[(sl g0 m0 m0), (sl g1 m1 m1), .slice none 0 0, .slice none 0 0, .slice none 0 0, .slice none 0 0]) := Lib.hid (Y2.out.set_ 1 (sl g1 m1 m1))
  replace SL : Hid (AllSl #[(sl g0 m0 m0), (sl g1 m1 m1), .slice none 0 0, .slice none 0 0, .slice none 0 0, .slice none 0 0]) := Lib.hid SL2.out
  replace HR := HR2
  replace HF := Lib.hid ((HF.out.set_ (p := ⟨b2, 0, none⟩) (.inr (by show w.heap.size <= b2; omega)) (sl g0 m0 m0)).set_ (p := ⟨b2, 1, none⟩) (.inr (by show w.heap.size <= b2; omega)) (sl g1 m1 m1))
  clear Y2 SL1 SL2 HR2
  go_wp2_with fail
  obtain ⟨l2, r3, e2⟩ : ∃ l r, listsN r2 = (l, r) := ⟨_, _, rfl⟩
  have hcl := lists_any HR.out hn
  rw [e2] at hcl
  dsimp only at hcl
  have E2 := Lib.hid e2
  clear e2
  refine hcl.mono ?_
  clear hcl
  rintro e V2 ⟨g2, f2, rfl, hg, ho, hov, hr, hf⟩
  have hsz := HF.out.size
  obtain ⟨m2, hm⟩ : ∃ m, l2.length = m := ⟨_, rfl⟩
  have P_bn : Hid (IntRows V2 w.heap.size (sl g2 m2 m2) l2) := Lib.hid ⟨g2, f2, by rw [hm], by omega, ho, fun i hi => own_mono (hov i hi) hsz⟩
  rw [hm]
  replace P_c := Lib.hid (P_c.out.fr hf hbw)
  replace P_l := Lib.hid (P_l.out.fr hf hbw)
  replace X1 := Lib.hid (hf.blk X1.out (fun e => by omega))
  replace X2 := Lib.hid (hf.blk X2.out (fun e => by omega))
  replace HF := Lib.hid (HF.out.trans hf)
  replace HR := Lib.hid hr
  clear hr hf hsz hm ho hg hov
  go_wp2_with fail
  obtain ⟨l3, r4, e3⟩ : ∃ l r, listN r3 = (l, r) := ⟨_, _, rfl⟩
  have hcl := list_any HR.out hn
  rw [e3] at hcl
  dsimp only at hcl
  have E3 := Lib.hid e3
  clear e3
  refine hcl.mono ?_
  clear hcl
  rintro e V3 ⟨g3, rfl, ho, hr, hf⟩
  have hsz := HF.out.size
  obtain ⟨m3, hm⟩ : ∃ m, l3.length = m := ⟨_, rfl⟩
  have P_bo : Hid (IntRow V3 w.heap.size (sl g3 m3 m3) l3) := Lib.hid ⟨g3, by rw [hm], by rw [<- hm]; exact own_mono ho hsz⟩
  rw [hm]
  replace P_c := Lib.hid (P_c.out.fr hf hbw)
  replace P_l := Lib.hid (P_l.out.fr hf hbw)
  replace P_bn := Lib.hid (P_bn.out.fr hf hbw)
  replace X1 := Lib.hid (hf.blk X1.out (fun e => by omega))
  replace X2 := Lib.hid (hf.blk X2.out (fun e => by omega))
  replace HF := Lib.hid (HF.out.trans hf)
  replace HR := Lib.hid hr
  clear hr hf hsz hm ho
  have d0 : V3.cell? ⟨b2, 2, none⟩ = some (.slice none 0 0) := X2.out.cell 2
  have d1 : V3.cell? ⟨b2, 3, none⟩ = some (.slice none 0 0) := X2.out.cell 3
  have z0 := X2.out.frozen 2; have z1 := X2.out.frozen 3
  have Y2 : Hid (Blk (V3.setCell ⟨b2, 2, none⟩ (sl g2 m2 m2)) b2 31 #[(sl g0 m0 m0), (sl g1 m1 m1), (sl g2 m2 m2), .slice none 0 0, .slice none 0 0, .slice none 0 0]) := Lib.hid (X2.out.set_ 2 (sl g2 m2 m2))
  have SL1 := Lib.hid (SL.out.set_ 2 (u := (sl g2 m2 m2)) ⟨_, _, _, rfl⟩)
  have HR2 : Hid (RdSt ((V3.setCell ⟨b2, 2, none⟩ (sl g2 m2 m2)).setCell ⟨b2, 3, none⟩ (sl g3 m3 m3)) b A n cap bs r4) := Lib.hid ((HR.out.box X2.out (by decide) SL.out (i := 2) (u := (sl g2 m2 m2))).box Y2.out (by decide) SL1.out (i := 3) (u := (sl g3 m3 m3)))
  have SL2 := Lib.hid (SL1.out.set_ 3 (u := (sl g3 m3 m3)) ⟨_, _, _, rfl⟩)
  replace P_c := Lib.hid ((P_c.out.set_ (i := 2) (u := (sl g2 m2 m2)) X2.out (by decide)).set_ (i := 3) (u := (sl g3 m3 m3)) Y2.out (by decide))
  replace P_l := Lib.hid ((P_l.out.set_ (i := 2) (u := (sl g2 m2 m2)) X2.out (by decide)).set_ (i := 3) (u := (sl g3 m3 m3)) Y2.out (by decide))
  replace P_bn := Lib.hid ((P_bn.out.set_ (i := 2) (u := (sl g2 m2 m2)) X2.out (by decide) (by decide)).set_ (i := 3) (u := (sl g3 m3 m3)) Y2.out (by decide) (by decide))
  replace P_bo := Lib.hid ((P_bo.out.set_ (i := 2) (u := (sl g2 m2 m2)) X2.out (by decide)).set_ (i := 3) (u := (sl g3 m3 m3)) Y2.out (by decide))
  replace X1 : Hid (Blk ((V3.setCell ⟨b2, 2, none⟩ (sl g2 m2 m2)).setCell ⟨b2, 3, none⟩ (sl g3 m3 m3)) b1 31 #[.slice none 0 0, .slice none 0 0, .slice none 0 0, .slice none 0 0, .slice none 0 0, .slice none 0 0]) := Lib.hid ((X1.out.far (p := ⟨b2, 2, none⟩) (by show b1 ≠ b2; omega) (sl g2 m2 m2)).far (p := ⟨b2, 3, none⟩) (by show b1 ≠ b2; omega) (sl g3 m3 m3))
  replace X2 : Hid (Blk ((V3.setCell ⟨b2, 2, none⟩ (sl g2 m2 m2)).setCell ⟨b2, 3, none⟩ (sl g3 m3 m3)) b2 31 #[(sl g0 m0 m0), (sl g1 m1 m1), (sl g2 m2 m2), (sl g3 m3 m3), .slice none 0 0, .slice none 0 0]) := Lib.hid (Y2.out.set_ 3 (sl g3 m3 m3))
  replace SL : Hid (AllSl #[(sl g0 m0 m0), (sl g1 m1 m1), (sl g2 m2 m2), (sl g3 m3 m3), .slice none 0 0, .slice none 0 0]) := Lib.hid SL2.out
  replace HR := HR2
  replace HF := Lib.hid ((HF.out.set_ (p := ⟨b2, 2, none⟩) (.inr (by show w.heap.size <= b2; omega)) (sl g2 m2 m2)).set_ (p := ⟨b2, 3, none⟩) (.inr (by show w.heap.size <= b2; omega)) (sl g3 m3 m3))
  clear Y2 SL1 SL2 HR2
  go_wp2_with fail
  obtain ⟨l4, r5, e4⟩ : ∃ l r, listsN r4 = (l, r) := ⟨_, _, rfl⟩
  have hcl := lists_any HR.out hn
  rw [e4] at hcl
  dsimp only at hcl
  have E4 := Lib.hid e4
  clear e4
  refine hcl.mono ?_
  clear hcl
  rintro e V4 ⟨g4, f4, rfl, hg, ho, hov, hr, hf⟩
  have hsz := HF.out.size
  obtain ⟨m4, hm⟩ : ∃ m, l4.length = m := ⟨_, rfl⟩
  have P_fn : Hid (IntRows V4 w.heap.size (sl g4 m4 m4) l4) := Lib.hid ⟨g4, f4, by rw [hm], by omega, ho, fun i hi => own_mono (hov i hi) hsz⟩
  rw [hm]
  replace P_c := Lib.hid (P_c.out.fr hf hbw)
  replace P_l := Lib.hid (P_l.out.fr hf hbw)
  replace P_bn := Lib.hid (P_bn.out.fr hf hbw)
  replace P_bo := Lib.hid (P_bo.out.fr hf hbw)
  replace X1 := Lib.hid (hf.blk X1.out (fun e => by omega))
  replace X2 := Lib.hid (hf.blk X2.out (fun e => by omega))
  replace HF := Lib.hid (HF.out.trans hf)
  replace HR := Lib.hid hr
  clear hr hf hsz hm ho hg hov
  go_wp2_with fail
  obtain ⟨l5, r6, e5⟩ : ∃ l r, emitsN r5 = (l, r) := ⟨_, _, rfl⟩
  have hcl := emits_any HR.out hn
  rw [e5] at hcl
  dsimp only at hcl
  have E5 := Lib.hid e5
  clear e5
  refine hcl.mono ?_
  clear hcl
  rintro e V5 ⟨g5, f5, rfl, hg, ho, hov, hr, hf⟩
  have hsz := HF.out.size
  obtain ⟨m5, hm⟩ : ∃ m, l5.length = m := ⟨_, rfl⟩
  have P_fe : Hid (VecRows V5 w.heap.size (sl g5 m5 m5) l5) := Lib.hid ⟨g5, f5, by rw [hm], by omega, ho, fun i hi => (hov i hi).mono hsz⟩
  rw [hm]
  replace P_c := Lib.hid (P_c.out.fr hf hbw)
  replace P_l := Lib.hid (P_l.out.fr hf hbw)
  replace P_bn := Lib.hid (P_bn.out.fr hf hbw)
  replace P_bo := Lib.hid (P_bo.out.fr hf hbw)
  replace P_fn := Lib.hid (P_fn.out.fr hf hbw)
  replace X1 := Lib.hid (hf.blk X1.out (fun e => by omega))
  replace X2 := Lib.hid (hf.blk X2.out (fun e => by omega))
  replace HF := Lib.hid (HF.out.trans hf)
  replace HR := Lib.hid hr
  clear hr hf hsz hm ho hg hov
  have d0 : V5.cell? ⟨b2, 4, none⟩ = some (.slice none 0 0) := X2.out.cell 4
  have d1 : V5.cell? ⟨b2, 5, none⟩ = some (.slice none 0 0) := X2.out.cell 5
  have z0 := X2.out.frozen 4; have z1 := X2.out.frozen 5
  have y0 : V5.cell? ⟨b2, 0, none⟩ = some ((sl g0 m0 m0)) := X2.out.cell 0
  have y1 : V5.cell? ⟨b2, 1, none⟩ = some ((sl g1 m1 m1)) := X2.out.cell 1
  have y2 : V5.cell? ⟨b2, 2, none⟩ = some ((sl g2 m2 m2)) := X2.out.cell 2
  have y3 : V5.cell? ⟨b2, 3, none⟩ = some ((sl g3 m3 m3)) := X2.out.cell 3
  have x0 : V5.cell? ⟨b1, 0, none⟩ = some (.slice none 0 0) := X1.out.cell 0
  have x1 : V5.cell? ⟨b1, 1, none⟩ = some (.slice none 0 0) := X1.out.cell 1
  have x2 : V5.cell? ⟨b1, 2, none⟩ = some (.slice none 0 0) := X1.out.cell 2
  have x3 : V5.cell? ⟨b1, 3, none⟩ = some (.slice none 0 0) := X1.out.cell 3
  have x4 : V5.cell? ⟨b1, 4, none⟩ = some (.slice none 0 0) := X1.out.cell 4
  have x5 : V5.cell? ⟨b1, 5, none⟩ = some (.slice none 0 0) := X1.out.cell 5
  have u0 := X1.out.frozen 0
  have u1 := X1.out.frozen 1
  have u2 := X1.out.frozen 2
  have u3 := X1.out.frozen 3
  have u4 := X1.out.frozen 4
  have u5 := X1.out.frozen 5
  have n1 : ¬ b1 = b2 := by omega
  have n2 : ¬ b2 = b1 := by omega
  have Y2 : Hid (Blk (V5.setCell ⟨b2, 4, none⟩ (sl g4 m4 m4)) b2 31 #[(sl g0 m0 m0), (sl g1 m1 m1), (sl g2 m2 m2), (sl g3 m3 m3), (sl g4 m4 m4), .slice none 0 0]) := Lib.hid (X2.out.set_ 4 (sl g4 m4 m4))
  have SL1 := Lib.hid (SL.out.set_ 4 (u := (sl g4 m4 m4)) ⟨_, _, _, rfl⟩)
  have HR2 : Hid (RdSt ((V5.setCell ⟨b2, 4, none⟩ (sl g4 m4 m4)).setCell ⟨b2, 5, none⟩ (sl g5 m5 m5)) b A n cap bs r6) := Lib.hid ((HR.out.box X2.out (by decide) SL.out (i := 4) (u := (sl g4 m4 m4))).box Y2.out (by decide) SL1.out (i := 5) (u := (sl g5 m5 m5)))
  have SL2 := Lib.hid (SL1.out.set_ 5 (u := (sl g5 m5 m5)) ⟨_, _, _, rfl⟩)
  replace P_c := Lib.hid ((P_c.out.set_ (i := 4) (u := (sl g4 m4 m4)) X2.out (by decide)).set_ (i := 5) (u := (sl g5 m5 m5)) Y2.out (by decide))
  replace P_l := Lib.hid ((P_l.out.set_ (i := 4) (u := (sl g4 m4 m4)) X2.out (by decide)).set_ (i := 5) (u := (sl g5 m5 m5)) Y2.out (by decide))
  replace P_bn := Lib.hid ((P_bn.out.set_ (i := 4) (u := (sl g4 m4 m4)) X2.out (by decide) (by decide)).set_ (i := 5) (u := (sl g5 m5 m5)) Y2.out (by decide) (by decide))
  replace P_bo := Lib.hid ((P_bo.out.set_ (i := 4) (u := (sl g4 m4 m4)) X2.out (by decide)).set_ (i := 5) (u := (sl g5 m5 m5)) Y2.out (by decide))
  replace P_fn := Lib.hid ((P_fn.out.set_ (i := 4) (u := (sl g4 m4 m4)) X2.out (by decide) (by decide)).set_ (i := 5) (u := (sl g5 m5 m5)) Y2.out (by decide) (by decide))
  replace P_fe := Lib.hid ((P_fe.out.set_ (i := 4) (u := (sl g4 m4 m4)) X2.out (by decide) (by decide)).set_ (i := 5) (u := (sl g5 m5 m5)) Y2.out (by decide) (by decide))
  replace X1 : Hid (Blk ((V5.setCell ⟨b2, 4, none⟩ (sl g4 m4 m4)).setCell ⟨b2, 5, none⟩ (sl g5 m5 m5)) b1 31 #[.slice none 0 0, .slice none 0 0, .slice none 0 0, .slice none 0 0, .slice none 0 0, .slice none 0 0]) := Lib.hid ((X1.out.far (p := ⟨b2, 4, none⟩) (by show b1 ≠ b2; omega) (sl g4 m4 m4)).far (p := ⟨b2, 5, none⟩) (by show b1 ≠ b2; omega) (sl g5 m5 m5))
  replace X2 : Hid (Blk ((V5.setCell ⟨b2, 4, none⟩ (sl g4 m4 m4)).setCell ⟨b2, 5, none⟩ (sl g5 m5 m5)) b2 31 #[(sl g0 m0 m0), (sl g1 m1 m1), (sl g2 m2 m2), (sl g3 m3 m3), (sl g4 m4 m4), (sl g5 m5 m5)]) := Lib.hid (Y2.out.set_ 5 (sl g5 m5 m5))
  replace SL : Hid (AllSl #[(sl g0 m0 m0), (sl g1 m1 m1), (sl g2 m2 m2), (sl g3 m3 m3), (sl g4 m4 m4), (sl g5 m5 m5)]) := Lib.hid SL2.out
  replace HR := HR2
  replace HF := Lib.hid ((HF.out.set_ (p := ⟨b2, 4, none⟩) (.inr (by show w.heap.size <= b2; omega)) (sl g4 m4 m4)).set_ (p := ⟨b2, 5, none⟩) (.inr (by show w.heap.size <= b2; omega)) (sl g5 m5 m5))
  clear Y2 SL1 SL2 HR2
  have FIN := Lib.hid ((((((RdTab.set_ (i := 0) (u := sl g0 m0 m0) (⟨⟨P_c.out, P_l.out, P_bn.out, P_bo.out, P_fn.out, P_fe.out⟩, HR.out, HF.out, X1.out, (by intro v hv; simp at hv; exact ⟨_, _, _, hv⟩)⟩ : RdTab w b b1 A n cap bs r6 (sl g0 m0 m0) (sl g1 m1 m1) (sl g2 m2 m2) (sl g3 m3 m3) (sl g4 m4 m4) (sl g5 m5 m5) ⟨l0, l1, l2, l3, l4, l5⟩ _ _) hq1 ⟨_, _, _, rfl⟩).set_ (i := 1) (u := sl g1 m1 m1) hq1 ⟨_, _, _, rfl⟩).set_ (i := 2) (u := sl g2 m2 m2) hq1 ⟨_, _, _, rfl⟩).set_ (i := 3) (u := sl g3 m3 m3) hq1 ⟨_, _, _, rfl⟩).set_ (i := 4) (u := sl g4 m4 m4) hq1 ⟨_, _, _, rfl⟩).set_ (i := 5) (u := sl g5 m5 m5) hq1 ⟨_, _, _, rfl⟩)
  go_wp2_with fail
  refine bodyPost_ret (v := .agg #[sl g0 m0 m0, sl g1 m1 m1, sl g2 m2 m2, sl g3 m3 m3, sl g4 m4 m4, sl g5 m5 m5]) (by simp [results, Try.results35, go_sem, x0, x1, x2, x3, x4, x5, n1, n2]) rfl ?_
  refine ⟨(l0, l1, l2, l3, l4, l5), r6, ?_, ⟨sl g0 m0 m0, sl g1 m1 m1, sl g2 m2 m2, sl g3 m3 m3, sl g4 m4 m4, sl g5 m5 m5, rfl, FIN.out.tab⟩, FIN.out.rd, FIN.out.fr⟩
  unfold tableN
  simp only [E0.out, E1.out, E2.out, E3.out, E4.out, E5.out]
end Go.Proofs.Ytjkcglgkdclidaa
namespace Go.Proofs.Ytjkcglgkdclidaa
open Go Go.RowKit Go.Proofs
def tabOf (t : List Int × List Int × List (List Int) × List Int × List (List Int) × List (List V3)) : Tab := ⟨t.1, t.2.1, t.2.2.1, t.2.2.2.1, t.2.2.2.2.1, t.2.2.2.2.2⟩
theorem tableN_rd (L : List Int) : (∃ t r, rdT none L = some (t, r) /\ (tableN (some L)).2 = some r /\ tabOf (tableN (some L)).1 = t) \/ (rdT none L = none /\ (tableN (some L)).2 = none) := by
 have z : ∀ q, q = none -> (listN q).2 = none := fun q e => by subst e; rfl
 have zz : ∀ q, q = none -> (listsN q).2 = none := fun q e => by subst e; rfl
 have ze : ∀ q, q = none -> (emitsN q).2 = none := fun q e => by subst e; rfl
 unfold tableN rdT
 rcases listN_rd L with ⟨c, L1, h1, e1⟩ | ⟨h1, e1⟩
 ·rcases listN_rd L1 with ⟨l, L2, h2, e2⟩ | ⟨h2, e2⟩
  ·rcases listsN_rd L2 with ⟨bn, L3, h3, e3⟩ | ⟨h3, e3⟩
   ·rcases listN_rd L3 with ⟨bo, L4, h4, e4⟩ | ⟨h4, e4⟩
    ·rcases listsN_rd L4 with ⟨fn, L5, h5, e5⟩ | ⟨h5, e5⟩
     ·rcases emitsN_rd L5 with ⟨fe, L6, h6, e6⟩ | ⟨h6, e6⟩
      ·refine .inl ⟨⟨c, l, bn, bo, fn, fe⟩, L6, ?_, ?_, ?_⟩
       ·simp only [h1, h2, h3, h4, h5, h6]
       ·simp only [e1, e2, e3, e4, e5, e6]
       ·simp only [e1, e2, e3, e4, e5, e6, tabOf]
      ·refine .inr ⟨by simp only [h1, h2, h3, h4, h5, h6], ?_⟩
       simp only [e1, e2, e3, e4, e5]; exact e6
     ·refine .inr ⟨by simp only [h1, h2, h3, h4, h5], ?_⟩
      simp only [e1, e2, e3, e4]; exact ze _ e5
    ·refine .inr ⟨by simp only [h1, h2, h3, h4], ?_⟩
     simp only [e1, e2, e3]; exact ze _ (zz _ e4)
   ·refine .inr ⟨by simp only [h1, h2, h3], ?_⟩
    simp only [e1, e2]; exact ze _ (zz _ (z _ e3))
  ·refine .inr ⟨by simp only [h1, h2], ?_⟩
   simp only [e1]; exact ze _ (zz _ (z _ (zz _ e2)))
 ·refine .inr ⟨by simp only [h1], ?_⟩
  exact ze _ (zz _ (z _ (zz _ (z _ e1))))
theorem IntRows.rowsI {w : World} {B : Nat} {v : Value} {l : List (List Int)} (h : IntRows w B v l) (hl : l.length <= 1000000) : RowsI w v l := by
 obtain ⟨g, f, rfl, hg, hx, hv⟩ := h
 refine ⟨some ⟨g, 0, none⟩, l.length, rfl, Nat.le_refl _, by unfold maxLen; omega, (fun e => by cases e), fun i hi => ⟨g, 0, f i, rfl, ?_, (hv i hi).readsI⟩⟩
 rw [Nat.zero_add, hx.cell, valsA_at hi]
end Go.Proofs.Ytjkcglgkdclidaa
namespace Go.Proofs.Ytjkcglgkdclidaa
open Go Go.RowKit Go.Proofs
theorem VecRow.reads {w : World} {B : Nat} {v : Value} {l : List V3} (h : VecRow w B v l) (hl : l.length <= 1000000) : ReadsE encV 3 w v l.length l := by
 obtain ⟨g, f, rfl, hg, hx, hv⟩ := h
 refine ⟨rfl, some ⟨g, 0, none⟩, l.length, rfl, Nat.le_refl _, by unfold maxLen; omega, (fun e => by cases e), fun i x hi => ⟨g, 0, rfl, fun j u hj => ?_⟩⟩
 have hil : i < l.length := (List.getElem?_eq_some_iff.1 hi).1
 have hj3 : j < 3 := by have := (List.getElem?_eq_some_iff.1 hj).1; rwa [encV_len] at this
 rw [Nat.zero_add, hx.cell, vcells_at f hil hj3, hv i hil]
 have e : l.getD i (0, 0, 0) = x := by rw [List.getD_eq_getElem?_getD, hi]; rfl
 rw [e]; exact hj
theorem VecRows.emitR {w : World} {B : Nat} {v : Value} {l : List (List V3)} (h : VecRows w B v l) (hl : l.length <= 1000000) (hr : ∀ i, i < l.length -> (l.getD i []).length <= 1000000) : EmitR w v l := by
 obtain ⟨g, f, rfl, hg, hx, hv⟩ := h
 refine ⟨some ⟨g, 0, none⟩, l.length, rfl, Nat.le_refl _, by unfold maxLen; omega, (fun e => by cases e), fun i hi => ⟨g, 0, f i, rfl, ?_, (hv i hi).reads (hr i hi)⟩⟩
 rw [Nat.zero_add, hx.cell, valsA_at hi]
theorem IntRow.reads {w : World} {B : Nat} {v : Value} {l : List Int} (h : IntRow w B v l) : ReadsI w v l.length l := by
 obtain ⟨g, e, ho⟩ := h
 exact ho.readsI
theorem TabO.tabR {w : World} {B : Nat} {vc vl vbn vbo vfn vfe : Value} {t : Tab} (h : TabO w B vc vl vbn vbo vfn vfe t) (h1 : t.bn.length <= 1000000) (h2 : t.fn.length <= 1000000) (h3 : t.fe.length <= 1000000) (h4 : ∀ i, i < t.fe.length -> (t.fe.getD i []).length <= 1000000) : TabR w vc vl vbn vbo vfn vfe t :=
 ⟨h.c.reads, h.l.reads, h.bn.rowsI h1, h.bo.reads, h.fn.rowsI h2, h.fe.emitR h3 h4⟩
theorem BytesR.pre {w : World} {A : Option Addr} {n cap k : Nat} {l : List Int} (h : BytesR w (.slice A n cap) n l) (hk : k <= n) : BytesR w (.slice A k cap) k (l.take k) := by
 obtain ⟨⟨h1, a, c, h2, h5, h6, h3, h4⟩, hb⟩ := h
 simp only [Value.slice.injEq, true_and] at h2
 obtain ⟨rfl, rfl⟩ := h2
 refine ⟨⟨by rw [List.length_take]; omega, A, cap, rfl, by omega, h6, h3, fun i x hi => h4 i x ?_⟩, fun x hx => hb x (List.mem_of_mem_take hx)⟩
 rw [List.getElem?_take] at hi
 split at hi
 ·exact hi
 ·cases hi
end Go.Proofs.Ytjkcglgkdclidaa
