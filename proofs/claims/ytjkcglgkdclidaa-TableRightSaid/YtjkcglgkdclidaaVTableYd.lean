/- Contract of table.Load. -/
import Derived.Test.YtjkcglgkdclidaaVTableYc
set_option linter.unusedVariables false
set_option linter.unusedSimpArgs false
set_option maxRecDepth 100000
set_option maxHeartbeats 4000000
namespace Go.Proofs.Ytjkcglgkdclidaa
open Go Go.RowKit Go.Proofs
theorem flat_each {α : Type} {en : α -> List Int} (l : List α) {i : Nat} {d : α} (hi : i < l.length) : (en (l.getD i d)).length <= (l.flatMap en).length := by
 induction l generalizing i with
 | nil => simp at hi
 | cons a l ih =>
   cases i with
   | zero => simp
   | succ i =>
     have := ih (i := i) (by simpa using hi)
     simp only [List.getD_cons_succ, List.flatMap_cons, List.length_append]
     omega
theorem rdT_lens {L r : List Int} {t : Tab} (h : rdT none L = some (t, r)) : t.bn.length <= L.length /\ t.fn.length <= L.length /\ t.fe.length <= L.length /\ ∀ i, i < t.fe.length -> (t.fe.getD i []).length <= L.length := by
 have e := congrArg List.length (rdT_back h)
 simp only [enT, List.length_append] at e
 have g1 := flat_ge (en := enN) codecN.pos t.bn
 have g2 := flat_ge (en := enN) codecN.pos t.fn
 have g3 := flat_ge (en := enVecs) codecVecs.pos t.fe
 have a1 : (enRows t.bn).length = (t.bn.flatMap enN).length + 1 := rfl
 have a2 : (enRows t.fn).length = (t.fn.flatMap enN).length + 1 := rfl
 have a3 : (enEmits t.fe).length = (t.fe.flatMap enVecs).length + 1 := rfl
 refine ⟨by omega, by omega, by omega, fun i hi => ?_⟩
 have g4 := flat_each (en := enVecs) t.fe (d := []) hi
 rw [enVecs_len] at g4
 omega
theorem VecRow.frb {w w' : World} {B b : Nat} {v : Value} {l : List V3} (h : VecRow w B v l) (hf : Fr (fun q => q = b) w w') (hb : b < B) : VecRow w' B v l := by
 obtain ⟨g, f, e, hg, hx, hv⟩ := h
 exact ⟨g, f, e, hg, hf.blk hx (fun e => by omega), hv⟩
theorem VecRows.frb {w w' : World} {B b : Nat} {v : Value} {l : List (List V3)} (h : VecRows w B v l) (hf : Fr (fun q => q = b) w w') (hb : b < B) : VecRows w' B v l := by
 obtain ⟨g, f, e, hg, hx, hv⟩ := h
 exact ⟨g, f, e, hg, hf.blk hx (fun e => by omega), fun i hi => (hv i hi).frb hf hb⟩
theorem TabO.fr {w w' : World} {B b : Nat} {vc vl vbn vbo vfn vfe : Value} {t : Tab} (h : TabO w B vc vl vbn vbo vfn vfe t) (hf : Fr (fun q => q = b) w w') (hb : b < B) : TabO w' B vc vl vbn vbo vfn vfe t :=
 ⟨h.c.fr hf hb, h.l.fr hf hb, h.bn.fr hf hb, h.bo.fr hf hb, h.fn.fr hf hb, h.fe.frb hf hb⟩
theorem VecRow.below {w w' : World} {B : Nat} {v : Value} {l : List V3} (h : VecRow w B v l) (hb : Below w.heap.size w w') : VecRow w' B v l := by
 obtain ⟨g, f, e, hg, hx, hv⟩ := h
 exact ⟨g, f, e, hg, hx.below hb hx.lt, hv⟩
theorem TabO.below {w w' : World} {B : Nat} {vc vl vbn vbo vfn vfe : Value} {t : Tab} (h : TabO w B vc vl vbn vbo vfn vfe t) (hb : Below w.heap.size w w') : TabO w' B vc vl vbn vbo vfn vfe t := by
 have r1 : ∀ {v l}, IntRow w B v l -> IntRow w' B v l := fun ⟨g, e, ho⟩ => ⟨g, e, ho.below_top hb⟩
 have r2 : ∀ {v l}, IntRows w B v l -> IntRows w' B v l := fun ⟨g, f, e, hg, hx, hv⟩ => ⟨g, f, e, hg, hx.below hb hx.lt, fun i hi => (hv i hi).below_top hb⟩
 have r3 : ∀ {v l}, VecRows w B v l -> VecRows w' B v l := fun ⟨g, f, e, hg, hx, hv⟩ => ⟨g, f, e, hg, hx.below hb hx.lt, fun i hi => (hv i hi).below hb⟩
 exact ⟨r1 h.c, r1 h.l, r2 h.bn, r1 h.bo, r2 h.fn, r3 h.fe⟩
theorem TabO.mono {w : World} {B B' : Nat} {vc vl vbn vbo vfn vfe : Value} {t : Tab} (h : TabO w B vc vl vbn vbo vfn vfe t) (hb : B' <= B) : TabO w B' vc vl vbn vbo vfn vfe t :=
 ⟨h.c.mono hb, h.l.mono hb, h.bn.mono hb, h.bo.mono hb, h.fn.mono hb, h.fe.mono hb⟩
theorem tab_six {w : World} {B b1 : Nat} {vc vl vbn vbo vfn vfe : Value} {t : Tab} {cs : Array Value} {vs : Nat -> Value} (h : TabO w B vc vl vbn vbo vfn vfe t) (hx : Blk w b1 31 cs) (hb : b1 < B) :
  TabO ((((((w.setCell ⟨b1, 0, none⟩ (vs 0)).setCell ⟨b1, 1, none⟩ (vs 1)).setCell ⟨b1, 2, none⟩ (vs 2)).setCell ⟨b1, 3, none⟩ (vs 3)).setCell ⟨b1, 4, none⟩ (vs 4)).setCell ⟨b1, 5, none⟩ (vs 5)) B vc vl vbn vbo vfn vfe t := by
  have x0 := hx
  have x1 := x0.set_ 0 (vs 0)
  have x2 := x1.set_ 1 (vs 1)
  have x3 := x2.set_ 2 (vs 2)
  have x4 := x3.set_ 3 (vs 3)
  have x5 := x4.set_ 4 (vs 4)
  exact (((((h.set_ x0).set_ x1).set_ x2).set_ x3).set_ x4).set_ x5
def LoadE (w w' : World) (e : Ending) (bs : List Int) : Prop :=
 (∃ vc vl vbn vbo vfn vfe t, loadP bs t /\ e = .returned (.tuple #[.agg #[vc, vl, vbn, vbo, vfn, vfe], .bool true]) /\ TabO w' w.heap.size vc vl vbn vbo vfn vfe t /\ TabR w' vc vl vbn vbo vfn vfe t) \/
 ((∀ t, ¬ loadP bs t) /\ e = .returned (.tuple #[.agg #[.slice none 0 0, .slice none 0 0, .slice none 0 0, .slice none 0 0, .slice none 0 0, .slice none 0 0], .bool false]))
theorem numsK_all (bs : List Int) : numsB bs = numsK ((bs.length - 0) / 8) (bs.drop 0) := rfl
theorem sealed_load {n at_ : Nat} {bs : List Int} {br : Bool} {t : List Int × List Int × List (List Int) × List Int × List (List Int) × List (List V3)} {r : Option (List Int)} (hl : bs.length = n) (ht : tableN (some (numsB bs)) = (t, r))
  (hn : r = none -> br = true /\ at_ = n) (hs : ∀ L, r = some L -> br = false /\ at_ % 8 = 0 /\ L = numsK ((n - at_) / 8) (bs.drop at_)) (hle : at_ <= n) :
  (∀ u, loadP bs u ↔ ((at_ + 8 = n /\ br = false /\ un8 ((bs.drop at_).take 8) = sumI (bs.take at_)) /\ u = tabOf t /\ RightT u)) /\ ((at_ + 8 = n /\ br = false /\ un8 ((bs.drop at_).take 8) = sumI (bs.take at_)) -> ∃ r', rdT none (numsB bs) = some (tabOf t, r')) := by
  rcases tableN_rd (numsB bs) with ⟨t', r', h1, h2, h3⟩ | ⟨h1, h2⟩
  ·rw [ht] at h2 h3
   simp only at h2 h3
   subst h3
   obtain ⟨hb, h8, hL⟩ := hs r' h2
   refine ⟨fun u => ⟨?_, ?_⟩, fun _ => ⟨_, h1⟩⟩
   ·rintro ⟨e8, s, q1, q2, q3⟩
    rw [h1] at q1
    simp only [Option.some.injEq, Prod.mk.injEq] at q1
    obtain ⟨rfl, rfl⟩ := q1
    have hk : (n - at_) / 8 = 1 := by
     have := congrArg List.length hL
     rw [numsK_len] at this
     simpa using this.symm
    rw [hk] at hL
    simp only [numsK, List.cons.injEq, and_true] at hL
    have ha : at_ + 8 = n := by omega
    refine ⟨⟨ha, hb, ?_⟩, rfl, q3⟩
    rw [<- hL, q2, show bs.length - 8 = at_ by omega]
   ·rintro ⟨⟨ha, -, hsum⟩, rfl, q3⟩
    have hk : (n - at_) / 8 = 1 := by omega
    rw [hk] at hL
    simp only [numsK] at hL
    subst hL
    exact ⟨by omega, _, h1, by rw [hsum, show bs.length - 8 = at_ by omega], q3⟩
  ·rw [ht] at h2
   simp only at h2
   obtain ⟨hb, _⟩ := hn h2
   refine ⟨fun u => ⟨?_, ?_⟩, ?_⟩
   ·rintro ⟨e8, s, q1, _⟩
    rw [h1] at q1; cases q1
   ·rintro ⟨⟨_, e, _⟩, _⟩
    rw [hb] at e; cases e
   ·rintro ⟨_, e, _⟩
    rw [hb] at e; cases e
theorem tload_any {w : World} {v : Value} {n : Nat} {bs : List Int} (h : BytesR w v n bs) (hn : n <= 8000000) :
  Calls Try.prog 16 #[v] w fun e w' => LoadE w w' e bs /\ Below w.heap.size w w' := by
  obtain ⟨A, cap, rfl, l1, l2, l3⟩ := h.form
  obtain ⟨b1, hb1⟩ : ∃ b, b = w.heap.size := ⟨_, rfl⟩
  obtain ⟨W0, hW0⟩ : ∃ W, w.alloc (.cells #[.slice none 0 0, .slice none 0 0, .slice none 0 0, .slice none 0 0, .slice none 0 0, .slice none 0 0] 31) = W := ⟨_, rfl⟩
  have hB0 : Below w.heap.size w W0 := by rw [<- hW0]; exact (Below.refl _ _).alloc (Nat.le_refl _) _
  have X1 : Hid (Blk W0 b1 31 #[.slice none 0 0, .slice none 0 0, .slice none 0 0, .slice none 0 0, .slice none 0 0, .slice none 0 0]) := Lib.hid (by rw [<- hW0, hb1]; exact Blk.new _ _ _)
  obtain ⟨b2, hb2⟩ : ∃ b, b = W0.heap.size := ⟨_, rfl⟩
  have hS1 : b1 + 1 = b2 := by rw [hb2, <- hW0, World.size_alloc, hb1]
  obtain ⟨W1, hW1⟩ : ∃ W, W0.alloc (.cells #[.slice A n cap, .int .i64 0, .bool false] 77) = W := ⟨_, rfl⟩
  have hB1 : Below W0.heap.size W0 W1 := by rw [<- hW1]; exact (Below.refl _ _).alloc (Nat.le_refl _) _
  have x2 : Blk W1 b2 77 #[.slice A n cap, .int .i64 (0 : Nat), .bool false] := by rw [<- hW1, hb2]; exact Blk.new _ _ _
  replace X1 := Lib.hid (Blk.below X1.out hB1 X1.out.lt)
  have HR : Hid (RdSt W1 b2 A n cap bs (some (numsB bs))) := Lib.hid ⟨0, false, ⟨x2, (h.below hB0).below hB1, Nat.zero_le _⟩, (fun e => by cases e), fun L e => ⟨rfl, rfl, by injection e with e; rw [<- e, numsK_all, l3]⟩⟩
  have HB := Lib.hid (hB0.trans (hB1.mono hB0.size))
  have hsz : W1.heap.size = b2 + 1 := by rw [<- hW1, World.size_alloc, hb2]
  have HSZ := Lib.hid hsz
  have HW0 := Lib.hid hW0; have HW1 := Lib.hid hW1; have Eb1 := Lib.hid hb1; have Eb2 := Lib.hid hb2; have HS1 := Lib.hid hS1; have HL := Lib.hid l3
  clear h hW0 hW1 hb1 hb2 hS1 hB0 hB1 x2 hsz l3
  go_enter Try.func16, Try.ntmps16
  go_wp2_with fail
  rw [HW0.out, HW1.out]
  rw [<- Eb1.out]
  try simp only [HS1.out]
  refine (rtable_any HR.out hn).mono ?_
  rintro e V ⟨t, r, ht, ⟨vc, vl, vbn, vbo, vfn, vfe, rfl, hto⟩, hrd, hf⟩
  have hb2' : b2 < W1.heap.size := by have := HSZ.out; omega
  have hbs : Below w.heap.size w V := by
   have := hf.below (B := w.heap.size) (by have := HB.out.size; omega) (fun k hk e => by have := HS1.out; have := Eb1.out; omega)
   exact HB.out.trans this
  have X1' := hf.blk X1.out (by have := HS1.out; omega)
  obtain ⟨m1, q1⟩ : ∃ m, t.1.length = m := ⟨_, rfl⟩
  obtain ⟨m2, q2⟩ : ∃ m, t.2.1.length = m := ⟨_, rfl⟩
  obtain ⟨m3, q3⟩ : ∃ m, t.2.2.1.length = m := ⟨_, rfl⟩
  obtain ⟨m4, q4⟩ : ∃ m, t.2.2.2.1.length = m := ⟨_, rfl⟩
  obtain ⟨m5, q5⟩ : ∃ m, t.2.2.2.2.1.length = m := ⟨_, rfl⟩
  obtain ⟨m6, q6⟩ : ∃ m, t.2.2.2.2.2.length = m := ⟨_, rfl⟩
  obtain ⟨g1, rfl⟩ : ∃ g, vc = sl g m1 m1 := by obtain ⟨g, e, _⟩ := hto.c; exact ⟨g, by rw [e, q1]⟩
  obtain ⟨g2, rfl⟩ : ∃ g, vl = sl g m2 m2 := by obtain ⟨g, e, _⟩ := hto.l; exact ⟨g, by rw [e, q2]⟩
  obtain ⟨g3, rfl⟩ : ∃ g, vbn = sl g m3 m3 := by obtain ⟨g, f, e, _⟩ := hto.bn; exact ⟨g, by rw [e, q3]⟩
  obtain ⟨g4, rfl⟩ : ∃ g, vbo = sl g m4 m4 := by obtain ⟨g, e, _⟩ := hto.bo; exact ⟨g, by rw [e, q4]⟩
  obtain ⟨g5, rfl⟩ : ∃ g, vfn = sl g m5 m5 := by obtain ⟨g, f, e, _⟩ := hto.fn; exact ⟨g, by rw [e, q5]⟩
  obtain ⟨g6, rfl⟩ : ∃ g, vfe = sl g m6 m6 := by obtain ⟨g, f, e, _⟩ := hto.fe; exact ⟨g, by rw [e, q6]⟩
  have HT := Lib.hid ht; have HTO : Hid (TabO V W1.heap.size (sl g1 m1 m1) (sl g2 m2 m2) (sl g3 m3 m3) (sl g4 m4 m4) (sl g5 m5 m5) (sl g6 m6 m6) (tabOf t)) := Lib.hid hto
  have HRD := Lib.hid hrd; have HF := Lib.hid hf; have HB2 := Lib.hid hbs; have HHS := Lib.hid hf.size
  replace X1 := Lib.hid X1'
  clear ht hto hrd hf hbs HR X1' q1 q2 q3 q4 q5 q6
  obtain ⟨b5, hb5⟩ : ∃ b, b = V.heap.size := ⟨_, rfl⟩
  obtain ⟨W5, hW5⟩ : ∃ W, V.alloc (.cells #[sl g1 m1 m1, sl g2 m2 m2, sl g3 m3 m3, sl g4 m4 m4, sl g5 m5 m5, sl g6 m6 m6] 31) = W := ⟨_, rfl⟩
  have hB5 : Below V.heap.size V W5 := by rw [<- hW5]; exact (Below.refl _ _).alloc (Nat.le_refl _) _
  have x5 : Blk W5 b5 31 #[sl g1 m1 m1, sl g2 m2 m2, sl g3 m3 m3, sl g4 m4 m4, sl g5 m5 m5, sl g6 m6 m6] := by rw [<- hW5, hb5]; exact Blk.new _ _ _
  replace X1 := Lib.hid (Blk.below X1.out hB5 X1.out.lt)
  replace HTO := Lib.hid (HTO.out.below hB5)
  replace HRD := Lib.hid (HRD.out.below hB5)
  have HB3 := Lib.hid (HB2.out.trans (hB5.mono HB2.out.size))
  have hn5 : b2 < b5 := by have := HHS.out; omega
  have hn1 : b1 < b2 := by have := HS1.out; omega
  have X5 := Lib.hid x5; have HW5 := Lib.hid hW5; have Eb5 := Lib.hid hb5
  clear hB5 x5 hW5 hb5 HB2
  go_wp2_with fail
  rw [HW5.out]
  try rw [<- Eb5.out]
  obtain ⟨at_, br, hc, hno, hyes⟩ := HRD.out
  have hsl := sealed_load HL.out HT.out hno hyes hc.le
  refine (sealed_any hc).mono ?_
  rintro e V6 ⟨s, rfl, hs, hf6⟩
  have h12 := HW5
  replace X1 := Lib.hid (hf6.blk X1.out (by show ¬ b1 = b2; omega))
  replace X5 := Lib.hid (hf6.blk X5.out (by show ¬ b5 = b2; omega))
  replace HTO := Lib.hid (HTO.out.fr hf6 hb2')
  have HB4 : Hid (Below w.heap.size w V6) := Lib.hid (HB3.out.trans (hf6.below (by have := HB3.out.size; omega) (fun k hk e => by have := Eb1.out; omega)))
  have HS := Lib.hid hs; have HSL := Lib.hid hsl
  clear hc hno hyes hsl hs hf6 HRD HB3 h12 HW5
  cases s with
  | false =>
    have HNO : Hid (∀ u, ¬ loadP bs u) := Lib.hid (fun u hu => by have := HS.out.2 ((HSL.out.1 u).1 hu).1; cases this)
    have c0 := X1.out.cell 0; have c1 := X1.out.cell 1; have c2 := X1.out.cell 2; have c3 := X1.out.cell 3; have c4 := X1.out.cell 4; have c5 := X1.out.cell 5
    have f0 := X1.out.frozen 0; have f1 := X1.out.frozen 1; have f2 := X1.out.frozen 2; have f3 := X1.out.frozen 3; have f4 := X1.out.frozen 4; have f5 := X1.out.frozen 5
    simp only [List.getElem?_toArray, List.getElem?_cons_zero, List.getElem?_cons_succ] at c0 c1 c2 c3 c4 c5
    clear HS HSL
    go_wp2_with fail
    refine bodyPost_ret (v := .tuple #[.agg #[.slice none 0 0, .slice none 0 0, .slice none 0 0, .slice none 0 0, .slice none 0 0, .slice none 0 0], .bool false]) (by simp [results, Try.results16, go_sem, c0, c1, c2, c3, c4, c5]) rfl ?_
    exact ⟨.inr ⟨HNO.out, rfl⟩, (((((HB4.out.setCell (p := ⟨b1, 0, none⟩) (by have := Eb1.out; show w.heap.size <= b1; omega) _).setCell (p := ⟨b1, 1, none⟩) (by have := Eb1.out; show w.heap.size <= b1; omega) _).setCell (p := ⟨b1, 2, none⟩) (by have := Eb1.out; show w.heap.size <= b1; omega) _).setCell (p := ⟨b1, 3, none⟩) (by have := Eb1.out; show w.heap.size <= b1; omega) _).setCell (p := ⟨b1, 4, none⟩) (by have := Eb1.out; show w.heap.size <= b1; omega) _).setCell (p := ⟨b1, 5, none⟩) (by have := Eb1.out; show w.heap.size <= b1; omega) _⟩
  | true =>
    have hsd := HS.out.1 rfl
    obtain ⟨r', hr'⟩ := HSL.out.2 hsd
    obtain ⟨k1, k2, k3, k4⟩ := rdT_lens hr'
    rw [numsB_len, HL.out] at k1 k2 k3 k4
    have htr : TabR V6 (sl g1 m1 m1) (sl g2 m2 m2) (sl g3 m3 m3) (sl g4 m4 m4) (sl g5 m5 m5) (sl g6 m6 m6) (tabOf t) := HTO.out.tabR (by omega) (by omega) (by omega) (fun i hi => by have := k4 i hi; omega)
    have HTR := Lib.hid htr; have HSD := Lib.hid hsd; have RD : Hid (∃ r', rdT none (numsB bs) = some (tabOf t, r')) := Lib.hid ⟨r', hr'⟩
    clear k1 k2 k3 k4 hr' htr hsd HS
    have d0 := X5.out.cell 0; have d1 := X5.out.cell 1; have d2 := X5.out.cell 2; have d3 := X5.out.cell 3; have d4 := X5.out.cell 4; have d5 := X5.out.cell 5
    simp only [List.getElem?_toArray, List.getElem?_cons_zero, List.getElem?_cons_succ] at d0 d1 d2 d3 d4 d5
    go_wp2_with fail
    refine (tright_any HTR.out).mono ?_
    rintro e V7 ⟨s7, rfl, hs7, hb7⟩
    clear d0 d1 d2 d3 d4 d5
    replace X1 := Lib.hid (Blk.below X1.out hb7 X1.out.lt)
    replace X5 := Lib.hid (Blk.below X5.out hb7 X5.out.lt)
    replace HTO := Lib.hid (HTO.out.below hb7)
    replace HTR := Lib.hid (HTR.out.below hb7)
    replace HB4 := Lib.hid (HB4.out.trans (hb7.mono HB4.out.size))
    have HS7 := Lib.hid hs7
    clear hs7 hb7
    have c0 := X1.out.cell 0; have c1 := X1.out.cell 1; have c2 := X1.out.cell 2; have c3 := X1.out.cell 3; have c4 := X1.out.cell 4; have c5 := X1.out.cell 5
    have f0 := X1.out.frozen 0; have f1 := X1.out.frozen 1; have f2 := X1.out.frozen 2; have f3 := X1.out.frozen 3; have f4 := X1.out.frozen 4; have f5 := X1.out.frozen 5
    simp only [List.getElem?_toArray, List.getElem?_cons_zero, List.getElem?_cons_succ] at c0 c1 c2 c3 c4 c5
    cases s7 with
    | false =>
      have HNO : Hid (∀ u, ¬ loadP bs u) := Lib.hid (fun u hu => by
       obtain ⟨-, rfl, hr⟩ := (HSL.out.1 u).1 hu
       have := HS7.out.2 hr; cases this)
      clear HS7 HSL HSD
      go_wp2_with fail
      refine bodyPost_ret (v := .tuple #[.agg #[.slice none 0 0, .slice none 0 0, .slice none 0 0, .slice none 0 0, .slice none 0 0, .slice none 0 0], .bool false]) (by simp [results, Try.results16, go_sem, c0, c1, c2, c3, c4, c5]) rfl ?_
      exact ⟨.inr ⟨HNO.out, rfl⟩, (((((HB4.out.setCell (p := ⟨b1, 0, none⟩) (by have := Eb1.out; show w.heap.size <= b1; omega) _).setCell (p := ⟨b1, 1, none⟩) (by have := Eb1.out; show w.heap.size <= b1; omega) _).setCell (p := ⟨b1, 2, none⟩) (by have := Eb1.out; show w.heap.size <= b1; omega) _).setCell (p := ⟨b1, 3, none⟩) (by have := Eb1.out; show w.heap.size <= b1; omega) _).setCell (p := ⟨b1, 4, none⟩) (by have := Eb1.out; show w.heap.size <= b1; omega) _).setCell (p := ⟨b1, 5, none⟩) (by have := Eb1.out; show w.heap.size <= b1; omega) _⟩
    | true =>
      have HYES : Hid (loadP bs (tabOf t)) := Lib.hid ((HSL.out.1 _).2 ⟨HSD.out, rfl, HS7.out.1 rfl⟩)
      clear HS7 HSL HSD
      have d0 := X5.out.cell 0; have d1 := X5.out.cell 1; have d2 := X5.out.cell 2; have d3 := X5.out.cell 3; have d4 := X5.out.cell 4; have d5 := X5.out.cell 5
      simp only [List.getElem?_toArray, List.getElem?_cons_zero, List.getElem?_cons_succ] at d0 d1 d2 d3 d4 d5
      have n1 : ¬ b1 = b5 := by omega
      have n2 : ¬ b5 = b1 := by omega
      go_wp2_with fail
      have FIN := Lib.hid (tab_six (vs := fun i => [sl g1 m1 m1, sl g2 m2 m2, sl g3 m3 m3, sl g4 m4 m4, sl g5 m5 m5, sl g6 m6 m6].getD i (.slice none 0 0)) HTO.out X1.out (by have := HS1.out; have := HSZ.out; omega))
      refine bodyPost_ret (v := .tuple #[.agg #[sl g1 m1 m1, sl g2 m2 m2, sl g3 m3 m3, sl g4 m4 m4, sl g5 m5 m5, sl g6 m6 m6], .bool true]) (by simp [results, Try.results16, go_sem, c0, c1, c2, c3, c4, c5, n1, n2]) rfl ?_
      have hto := FIN.out
      obtain ⟨r', hr'⟩ := RD.out
      obtain ⟨k1, k2, k3, k4⟩ := rdT_lens hr'
      rw [numsB_len, HL.out] at k1 k2 k3 k4
      exact ⟨.inl ⟨_, _, _, _, _, _, tabOf t, HYES.out, rfl, hto.mono (by have := HB.out.size; have := HSZ.out; have := HS1.out; have := Eb1.out; omega), hto.tabR (by omega) (by omega) (by omega) (fun i hi => by have := k4 i hi; omega)⟩, ((((((HB4.out).setCell (p := ⟨b1, 0, none⟩) (by have := Eb1.out; show w.heap.size <= b1; omega) _).setCell (p := ⟨b1, 1, none⟩) (by have := Eb1.out; show w.heap.size <= b1; omega) _).setCell (p := ⟨b1, 2, none⟩) (by have := Eb1.out; show w.heap.size <= b1; omega) _).setCell (p := ⟨b1, 3, none⟩) (by have := Eb1.out; show w.heap.size <= b1; omega) _).setCell (p := ⟨b1, 4, none⟩) (by have := Eb1.out; show w.heap.size <= b1; omega) _).setCell (p := ⟨b1, 5, none⟩) (by have := Eb1.out; show w.heap.size <= b1; omega) _⟩
end Go.Proofs.Ytjkcglgkdclidaa
