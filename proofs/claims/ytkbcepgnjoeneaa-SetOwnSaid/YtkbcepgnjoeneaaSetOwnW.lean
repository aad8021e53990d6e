/- The law SetOwn, walked. -/
import Derived.Test.YtkbcepgnjoeneaaSetX
namespace Go.Proofs.Ytkbcepgnjoeneaa
open Go Go.RowKit
set_option linter.unusedVariables false
set_option linter.unusedSimpArgs false

/-- v is nil, or leads to room for n ranges in a block from B on, below C. -/
def Room (w : World) (B C : Nat) (v : Value) (n : Nat) : Prop := (v = .slice none 0 0 ∧ n = 0) ∨ ∃ g cap cur, v = .slice (some ⟨g, 0, none⟩) n cap ∧ B ≤ g ∧ g < C ∧ w.heap[g]? = some (.cells cur 27 (0, 0)) ∧ n * 2 ≤ cur.size ∧ n ≤ cap ∧ cap ≤ maxLen
theorem Room.of {w : World} {B C n : Nat} {v : Value} {l : List (Int × Int)} (h : OwnP w B v n l) (hC : w.heap.size ≤ C) : Room w B C v n := by
  rcases h.2 with ⟨rfl, rfl⟩ | ⟨g, cap, cur, rfl, hg, hh, hnc, hcm, hcs, _⟩
  · exact .inl ⟨rfl, rfl⟩
  · have := (Array.getElem?_eq_some_iff.1 hh).1
    exact .inr ⟨g, cap, cur, rfl, hg, by omega, hh, by rw [hcs]; omega, hnc, hcm⟩
theorem Room.below {w w' : World} {B C n : Nat} {v : Value} (h : Room w B C v n) (hb : Below w.heap.size w w') : Room w' B C v n := by
  rcases h with h | ⟨g, cap, cur, rfl, hg, hC, hh, r⟩
  · exact .inl h
  · exact .inr ⟨g, cap, cur, rfl, hg, hC, by rw [hb.block g (Array.getElem?_eq_some_iff.1 hh).1]; exact hh, r⟩
theorem Room.set {w : World} {B C n : Nat} {v : Value} (h : Room w B C v n) (g' j : Nat) (x : Value) : Room (w.setCell ⟨g', j, none⟩ x) B C v n := by
  rcases h with h | ⟨g, cap, cur, rfl, hg, hC, hh, h1, h2⟩
  · exact .inl h
  · by_cases e : g = g'
    · subst e
      exact .inr ⟨g, cap, cur.setIfInBounds j x, rfl, hg, hC, heap_setCell_same w g j cur _ x hh, by simpa using h1, h2⟩
    · exact .inr ⟨g, cap, cur, rfl, hg, hC, by rw [heap_setCell_other w ⟨g', j, none⟩ g x e]; exact hh, h1, h2⟩
theorem Room.form {w : World} {B C n : Nat} {v : Value} (h : Room w B C v n) : ∃ a cap, v = .slice a n cap ∧ n ≤ cap ∧ cap ≤ 9223372036854775807 := by
  rcases h with ⟨rfl, rfl⟩ | ⟨g, cap, cur, rfl, _, _, _, _, h1, h2⟩
  · exact ⟨none, 0, rfl, Nat.le_refl _, Nat.zero_le _⟩
  · exact ⟨_, cap, rfl, h1, h2⟩
theorem Room.at {w : World} {B C n cap : Nat} {a : Option Addr} (h : Room w B C (.slice a n cap) n) (i : Nat) (hi : i < n) : ∃ g y, a = some ⟨g, 0, none⟩ ∧ B ≤ g ∧ g < C ∧ w.cell? ⟨g, i * 2, none⟩ = some y ∧ w.frozen? ⟨g, i * 2, none⟩ = false := by
  rcases h with ⟨_, rfl⟩ | ⟨g, cap', cur, hv, hg, hC, hh, h1, _⟩
  · omega
  · simp only [Value.slice.injEq, true_and] at hv
    obtain ⟨rfl, rfl⟩ := hv
    have hlt : i * 2 < cur.size := by omega
    refine ⟨g, cur[i * 2], rfl, hg, hC, ?_, frozen_of_row w g _ cur _ hh⟩
    rw [cell_of_row w g _ cur _ (0, 0) hh, Array.getElem?_eq_getElem hlt]
/-- The six rows, at block G. -/
def Six (w : World) (B G : Nat) : Prop := ∀ i, i < 6 → ∃ v n, w.cell? ⟨G, i, none⟩ = some v ∧ Room w B G v n
theorem Six.below {w w' : World} {B G : Nat} (h : Six w B G) (hb : Below w.heap.size w w') : Six w' B G := fun i hi => by
  obtain ⟨v, n, h1, h2⟩ := h i hi
  exact ⟨v, n, (hb.cell (p := ⟨G, i, none⟩) (World.block_lt_of_cell? _ _ h1)).trans h1, h2.below hb⟩
theorem Six.set {w : World} {B G : Nat} (h : Six w B G) (g j : Nat) (x : Value) (hg : g < G) : Six (w.setCell ⟨g, j, none⟩ x) B G := fun i hi => by
  obtain ⟨v, n, h1, h2⟩ := h i hi
  exact ⟨v, n, (World.cell?_setCell_other w _ _ _ (fun e => by have := congrArg Addr.block e; simp at this; omega)).trans h1, h2.set g j x⟩
theorem lit6 (w : World) (x0 x1 x2 x3 x4 x5 : Value) (t : TypeId) (o : Nat) (x : Value) (h : #[x0, x1, x2, x3, x4, x5][o]? = some x) : (w.alloc (.cells #[x0, x1, x2, x3, x4, x5] t)).cell? ⟨w.heap.size, o, none⟩ = some x := by
  rw [World.cell?_alloc_at _ _ _ _ rfl]; exact h
set_option maxRecDepth 100000 in
set_option maxHeartbeats 8000000 in
theorem setOwn_walk (a0 : Option Addr) (len0 cap0 : Nat) (z0 : List Int) (a1 : Option Addr) (len1 cap1 : Nat) (z1 : List Int) (a2 : Int) (w : World) (w0 : IsRow .i64 w a0 len0 cap0 z0) (w1 : IsRow .i64 w a1 len1 cap1 z1) (w2 : (Lit.int .i64 a2).wf = true) :
    Calls Try.prog 7 #[.slice a0 len0 cap0, .slice a1 len1 cap1, .int .i64 a2] w fun e w' => e = .returned (.bool true) ∧ Below w.heap.size w w' := by
  have Q0 := Lib.hid w0; clear w0
  obtain ⟨LA, HLA, MA⟩ : ∃ A, Rt A ∧ ∀ w', IsRow .i64 w' a0 len0 cap0 z0 → Calls Try.prog 20 #[.slice a0 len0 cap0] w' (Tells w' A) := ⟨_, mkS_rt z0 len0, fun w' h => make_any h⟩
  replace HLA := Lib.hid HLA; replace MA := Lib.hid MA
  have Q1 := Lib.hid w1; clear w1
  obtain ⟨LB, HLB, MB⟩ : ∃ A, Rt A ∧ ∀ w', IsRow .i64 w' a1 len1 cap1 z1 → Calls Try.prog 20 #[.slice a1 len1 cap1] w' (Tells w' A) := ⟨_, mkS_rt z1 len1, fun w' h => make_any h⟩
  replace HLB := Lib.hid HLB; replace MB := Lib.hid MB
  have F2 := Lib.hid w2; clear w2
  have BB : Hid (Below w.heap.size w w) := Lib.hid (Below.refl _ _)
  go_enter Try.func7, Try.ntmps7
  go_wp2_with fail
  have hq := known_any w
  refine hq.mono ?_
  rintro e W1 ⟨rfl, h2⟩
  clear hq
  replace Q0 := Lib.hid (IsRow.below Q0.out h2)
  replace Q1 := Lib.hid (IsRow.below Q1.out h2)
  replace BB := Lib.hid (BB.out.trans (h2.mono BB.out.size))
  clear h2
  go_wp2_with fail
  have hq := MA.out _ Q0.out
  refine hq.mono ?_
  rintro e W2 ⟨VA, rfl, h1, h2⟩
  clear hq
  replace Q0 := Lib.hid (IsRow.below Q0.out h2)
  replace Q1 := Lib.hid (IsRow.below Q1.out h2)
  replace BB := Lib.hid (BB.out.trans (h2.mono BB.out.size))
  clear h2
  have RA : Hid (ReadsP W2 VA LA.length LA) := Lib.hid h1.reads
  clear h1
  obtain ⟨AdA, CpA, eA, -, -, -⟩ := RA.out.form
  subst eA
  go_wp2_with fail
  have hq := MB.out _ Q1.out
  refine hq.mono ?_
  rintro e W3 ⟨VB, rfl, h1, h2⟩
  clear hq
  replace RA := Lib.hid (ReadsP.below RA.out h2)
  replace Q0 := Lib.hid (IsRow.below Q0.out h2)
  replace Q1 := Lib.hid (IsRow.below Q1.out h2)
  replace BB := Lib.hid (BB.out.trans (h2.mono BB.out.size))
  clear h2
  have RB : Hid (ReadsP W3 VB LB.length LB) := Lib.hid h1.reads
  clear h1
  obtain ⟨AdB, CpB, eB, -, -, -⟩ := RB.out.form
  subst eB
  have RA0 := RA; have RB0 := RB; have BB0 := BB; have QQ0 := Q0; have QQ1 := Q1
  have KK : Hid (Below W3.heap.size W3 W3) := Lib.hid (Below.refl _ _)
  have za := KK.out.size
  go_wp2_with fail
  obtain ⟨La, rx, mx, hq⟩ := or_x (readsL_mk (t := 24) [Value.slice AdA LA.length CpA, Value.slice AdB LB.length CpB] [LA, LB] ⟨RA.out, RB.out, trivial⟩) ⟨HLA.out, HLB.out, trivial⟩ (by simp)
  have HLa := Lib.hid rx; have Ma := Lib.hid mx; clear rx mx
  refine hq.mono ?_
  rintro e W4 ⟨Va, rfl, h1, h2⟩
  clear hq
  replace KK := Lib.hid ((KK.out.alloc KK.out.size _).trans (h2.mono (KK.out.alloc KK.out.size _).size))
  replace RA := Lib.hid (ReadsP.below (RA.out.alloc _) h2)
  replace RB := Lib.hid (ReadsP.below (RB.out.alloc _) h2)
  replace Q0 := Lib.hid (IsRow.below (Q0.out.alloc _) h2)
  replace Q1 := Lib.hid (IsRow.below (Q1.out.alloc _) h2)
  replace BB := Lib.hid ((BB.out.alloc BB.out.size _).trans (h2.mono (BB.out.alloc BB.out.size _).size))
  clear h2
  have Oa := Lib.hid h1
  have Ra : Hid (ReadsP W4 Va La.length La) := Lib.hid h1.reads
  clear h1
  obtain ⟨Ada, Cpa, ea, -, -, -⟩ := Ra.out.form
  subst ea
  clear Ra
  have Pa : Hid (OwnP _ W3.heap.size _ _ _) := Lib.hid (Oa.out.more (by first | exact za | (rw [World.size_alloc]; omega)))
  clear Oa
  have zb := KK.out.size
  go_wp2_with fail
  obtain ⟨Lb, rx, mx, hq⟩ := or_x (readsL_mk (t := 24) [Value.slice AdA LA.length CpA] [LA] ⟨RA.out, trivial⟩) ⟨HLA.out, trivial⟩ (by simp)
  have HLb := Lib.hid rx; have Mb := Lib.hid mx; clear rx mx
  refine hq.mono ?_
  rintro e W5 ⟨Vb, rfl, h1, h2⟩
  clear hq
  replace Pa := Lib.hid (OwnP.below_top (Pa.out.alloc _) h2)
  replace KK := Lib.hid ((KK.out.alloc KK.out.size _).trans (h2.mono (KK.out.alloc KK.out.size _).size))
  replace RA := Lib.hid (ReadsP.below (RA.out.alloc _) h2)
  replace RB := Lib.hid (ReadsP.below (RB.out.alloc _) h2)
  replace Q0 := Lib.hid (IsRow.below (Q0.out.alloc _) h2)
  replace Q1 := Lib.hid (IsRow.below (Q1.out.alloc _) h2)
  replace BB := Lib.hid ((BB.out.alloc BB.out.size _).trans (h2.mono (BB.out.alloc BB.out.size _).size))
  clear h2
  have Ob := Lib.hid h1
  have Rb : Hid (ReadsP W5 Vb Lb.length Lb) := Lib.hid h1.reads
  clear h1
  obtain ⟨Adb, Cpb, eb, -, -, -⟩ := Rb.out.form
  subst eb
  clear Rb
  have Pb : Hid (OwnP _ W3.heap.size _ _ _) := Lib.hid (Ob.out.more (by first | exact zb | (rw [World.size_alloc]; omega)))
  clear Ob
  have zc := KK.out.size
  go_wp2_with fail
  obtain ⟨Lc, rx, mx, hq⟩ := and_x RA.out RB.out HLA.out HLB.out
  have HLc := Lib.hid rx; have Mc := Lib.hid mx; clear rx mx
  refine hq.mono ?_
  rintro e W6 ⟨Vc, rfl, h1, h2⟩
  clear hq
  replace Pa := Lib.hid (OwnP.below_top Pa.out h2)
  replace Pb := Lib.hid (OwnP.below_top Pb.out h2)
  replace KK := Lib.hid (KK.out.trans (h2.mono KK.out.size))
  replace RA := Lib.hid (ReadsP.below RA.out h2)
  replace RB := Lib.hid (ReadsP.below RB.out h2)
  replace Q0 := Lib.hid (IsRow.below Q0.out h2)
  replace Q1 := Lib.hid (IsRow.below Q1.out h2)
  replace BB := Lib.hid (BB.out.trans (h2.mono BB.out.size))
  clear h2
  have Oc := Lib.hid h1
  have Rc : Hid (ReadsP W6 Vc Lc.length Lc) := Lib.hid h1.reads
  clear h1
  obtain ⟨Adc, Cpc, ec, -, -, -⟩ := Rc.out.form
  subst ec
  clear Rc
  have Pc : Hid (OwnP _ W3.heap.size _ _ _) := Lib.hid (Oc.out.more (by first | exact zc | (rw [World.size_alloc]; omega)))
  clear Oc
  have zd := KK.out.size
  go_wp2_with fail
  obtain ⟨Ld, rx, mx, hq⟩ := not_x RA.out HLA.out
  have HLd := Lib.hid rx; have Md := Lib.hid mx; clear rx mx
  refine hq.mono ?_
  rintro e W7 ⟨Vd, rfl, h1, h2⟩
  clear hq
  replace Pa := Lib.hid (OwnP.below_top Pa.out h2)
  replace Pb := Lib.hid (OwnP.below_top Pb.out h2)
  replace Pc := Lib.hid (OwnP.below_top Pc.out h2)
  replace KK := Lib.hid (KK.out.trans (h2.mono KK.out.size))
  replace RA := Lib.hid (ReadsP.below RA.out h2)
  replace RB := Lib.hid (ReadsP.below RB.out h2)
  replace Q0 := Lib.hid (IsRow.below Q0.out h2)
  replace Q1 := Lib.hid (IsRow.below Q1.out h2)
  replace BB := Lib.hid (BB.out.trans (h2.mono BB.out.size))
  clear h2
  have Od := Lib.hid h1
  have Rd : Hid (ReadsP W7 Vd Ld.length Ld) := Lib.hid h1.reads
  clear h1
  obtain ⟨Add, Cpd, ed, -, -, -⟩ := Rd.out.form
  subst ed
  clear Rd
  have Pd : Hid (OwnP _ W3.heap.size _ _ _) := Lib.hid (Od.out.more (by first | exact zd | (rw [World.size_alloc]; omega)))
  clear Od
  have ze := KK.out.size
  go_wp2_with fail
  obtain ⟨Le, rx, mx, hq⟩ := less_x RA.out RB.out HLA.out HLB.out
  have HLe := Lib.hid rx; have Me := Lib.hid mx; clear rx mx
  refine hq.mono ?_
  rintro e W8 ⟨Ve, rfl, h1, h2⟩
  clear hq
  replace Pa := Lib.hid (OwnP.below_top Pa.out h2)
  replace Pb := Lib.hid (OwnP.below_top Pb.out h2)
  replace Pc := Lib.hid (OwnP.below_top Pc.out h2)
  replace Pd := Lib.hid (OwnP.below_top Pd.out h2)
  replace KK := Lib.hid (KK.out.trans (h2.mono KK.out.size))
  replace RA := Lib.hid (ReadsP.below RA.out h2)
  replace RB := Lib.hid (ReadsP.below RB.out h2)
  replace Q0 := Lib.hid (IsRow.below Q0.out h2)
  replace Q1 := Lib.hid (IsRow.below Q1.out h2)
  replace BB := Lib.hid (BB.out.trans (h2.mono BB.out.size))
  clear h2
  have Oe := Lib.hid h1
  have Re : Hid (ReadsP W8 Ve Le.length Le) := Lib.hid h1.reads
  clear h1
  obtain ⟨Ade, Cpe, ee, -, -, -⟩ := Re.out.form
  subst ee
  clear Re
  have Pe : Hid (OwnP _ W3.heap.size _ _ _) := Lib.hid (Oe.out.more (by first | exact ze | (rw [World.size_alloc]; omega)))
  clear Oe
  have zf := KK.out.size
  go_wp2_with fail
  obtain ⟨Lf, hq⟩ : ∃ L, Calls Try.prog 14 _ _ (Tells _ L) := ⟨_, norm_x RA.out HLA.out⟩
  refine hq.mono ?_
  rintro e W9 ⟨Vf, rfl, h1, h2⟩
  clear hq
  replace Pa := Lib.hid (OwnP.below_top Pa.out h2)
  replace Pb := Lib.hid (OwnP.below_top Pb.out h2)
  replace Pc := Lib.hid (OwnP.below_top Pc.out h2)
  replace Pd := Lib.hid (OwnP.below_top Pd.out h2)
  replace Pe := Lib.hid (OwnP.below_top Pe.out h2)
  replace KK := Lib.hid (KK.out.trans (h2.mono KK.out.size))
  replace RA := Lib.hid (ReadsP.below RA.out h2)
  replace RB := Lib.hid (ReadsP.below RB.out h2)
  replace Q0 := Lib.hid (IsRow.below Q0.out h2)
  replace Q1 := Lib.hid (IsRow.below Q1.out h2)
  replace BB := Lib.hid (BB.out.trans (h2.mono BB.out.size))
  clear h2
  have Of := Lib.hid h1
  have Rf : Hid (ReadsP W9 Vf Lf.length Lf) := Lib.hid h1.reads
  clear h1
  obtain ⟨Adf, Cpf, ef, -, -, -⟩ := Rf.out.form
  subst ef
  clear Rf
  have Pf : Hid (OwnP _ W3.heap.size _ _ _) := Lib.hid (Of.out.more (by first | exact zf | (rw [World.size_alloc]; omega)))
  clear Of
  go_wp2_with fail
  have SX : Hid (Six (W9.alloc (.cells #[Value.slice Ada La.length Cpa, Value.slice Adb Lb.length Cpb, Value.slice Adc Lc.length Cpc, Value.slice Add Ld.length Cpd, Value.slice Ade Le.length Cpe, Value.slice Adf Lf.length Cpf] 24)) W3.heap.size W9.heap.size) := Lib.hid (fun i hi => by
    match i, hi with
    | 0, _ => exact ⟨_, _, lit6 W9 _ _ _ _ _ _ _ 0 _ rfl, (Room.of Pa.out (Nat.le_refl _)).below ((Below.refl _ _).alloc (Nat.le_refl _) _)⟩
    | 1, _ => exact ⟨_, _, lit6 W9 _ _ _ _ _ _ _ 1 _ rfl, (Room.of Pb.out (Nat.le_refl _)).below ((Below.refl _ _).alloc (Nat.le_refl _) _)⟩
    | 2, _ => exact ⟨_, _, lit6 W9 _ _ _ _ _ _ _ 2 _ rfl, (Room.of Pc.out (Nat.le_refl _)).below ((Below.refl _ _).alloc (Nat.le_refl _) _)⟩
    | 3, _ => exact ⟨_, _, lit6 W9 _ _ _ _ _ _ _ 3 _ rfl, (Room.of Pd.out (Nat.le_refl _)).below ((Below.refl _ _).alloc (Nat.le_refl _) _)⟩
    | 4, _ => exact ⟨_, _, lit6 W9 _ _ _ _ _ _ _ 4 _ rfl, (Room.of Pe.out (Nat.le_refl _)).below ((Below.refl _ _).alloc (Nat.le_refl _) _)⟩
    | 5, _ => exact ⟨_, _, lit6 W9 _ _ _ _ _ _ _ 5 _ rfl, (Room.of Pf.out (Nat.le_refl _)).below ((Below.refl _ _).alloc (Nat.le_refl _) _)⟩)
  have zz := KK.out.size
  replace KK := Lib.hid (KK.out.alloc zz (.cells #[Value.slice Ada La.length Cpa, Value.slice Adb Lb.length Cpb, Value.slice Adc Lc.length Cpc, Value.slice Add Ld.length Cpd, Value.slice Ade Le.length Cpe, Value.slice Adf Lf.length Cpf] 24))
  clear RA RB BB Q0 Q1 Pa Pb Pc Pd Pe Pf
  generalize W9.alloc (.cells #[Value.slice Ada La.length Cpa, Value.slice Adb Lb.length Cpb, Value.slice Adc Lc.length Cpc, Value.slice Add Ld.length Cpd, Value.slice Ade Le.length Cpe, Value.slice Adf Lf.length Cpf] 24) = V0 at *
  generalize W9.heap.size = gb at *
  go_loopw [10] (fun i wr => ∃ j : Nat, j ≤ 6 ∧ i = .int .i64 j ∧ Hid (Six wr W3.heap.size gb) ∧ Hid (Below W3.heap.size W3 wr)) (fun i _ => 6 - (intOf i).toNat)
  case atStart => exact ⟨0, by omega, rfl, SX, KK⟩
  case round =>
    clear SX KK
    obtain ⟨j, hj, rfl, SX, KK⟩ := hrel
    have i0 : (0 : Int) ≤ (j : Int) := Int.natCast_nonneg _
    by_cases hj6 : j < 6
    · have i1 : (j : Int) < 6 := by omega
      go_wp2_with fail
      obtain ⟨vj, nj, cj, rj⟩ := SX.out j hj6
      obtain ⟨aj, pj, ej, hpj1, hpj2⟩ := rj.form
      subst ej
      have CJ := Lib.hid cj; have RJ := Lib.hid rj; clear cj rj
      go_loopw [11] (fun i w9 => ∃ k : Nat, k ≤ nj ∧ i = .int .i64 k ∧ Hid (Six w9 W3.heap.size gb) ∧ Hid (w9.cell? ⟨gb, j, none⟩ = some (.slice aj nj pj)) ∧ Hid (Room w9 W3.heap.size gb (.slice aj nj pj) nj) ∧ Hid (Below W3.heap.size W3 w9)) (fun i _ => nj - (intOf i).toNat)
      case atStart => exact ⟨0, Nat.zero_le _, rfl, SX, CJ, RJ, KK⟩
      case round =>
        clear SX CJ RJ KK
        obtain ⟨k, hk, rfl, SX, CJ, RJ, KK⟩ := hrel
        have k0 : (0 : Int) ≤ (k : Int) := Int.natCast_nonneg _
        have cj := CJ.out
        by_cases hkn : k < nj
        · have k1 : (k : Int) < (nj : Int) := by omega
          obtain ⟨g1, y, rfl, hg1, hg2, y1, y2⟩ := RJ.out.at k hkn
          have hne : ¬ g1 = gb := by omega
          go_wp2_with fail
          exact ⟨⟨k + 1, by omega, by go_num, Lib.hid (SX.out.set g1 _ _ hg2), Lib.hid ((World.cell?_setCell_other _ _ _ _ (fun e => by have := congrArg Addr.block e; simp at this; omega)).trans cj), Lib.hid (RJ.out.set g1 _ _), Lib.hid (KK.out.setCell (p := ⟨g1, k * 2, none⟩) hg1 _)⟩, by simp [intOf]; omega⟩
        · obtain rfl : k = nj := by omega
          go_wp2_with fail
          exact ⟨⟨j + 1, by omega, by go_num, SX, KK⟩, by simp [intOf]; omega⟩
    · have RA1 := Lib.hid (RA0.out.below KK.out)
      have RB1 := Lib.hid (RB0.out.below KK.out)
      have BB1 := Lib.hid (BB0.out.trans (KK.out.mono BB0.out.size))
      have Q0 := Lib.hid (QQ0.out.below KK.out); have Q1 := Lib.hid (QQ1.out.below KK.out)
      clear SX KK RA0 RB0 BB0 QQ0 QQ1
      go_wp2_with fail
      refine (MA.out _ Q0.out).mono ?_
      rintro e Y1 ⟨VX, rfl, h1, h2⟩
      have RX := Lib.hid h1.reads
      replace RA1 := Lib.hid (RA1.out.below h2); replace RB1 := Lib.hid (RB1.out.below h2); replace BB1 := Lib.hid (BB1.out.trans (h2.mono BB1.out.size)); replace Q1 := Lib.hid (Q1.out.below h2)
      clear h1 h2
      go_wp2_with fail
      refine (same_x RA1.out RX.out rfl).mono ?_
      rintro e Y2 ⟨rfl, h2⟩
      replace RB1 := Lib.hid (RB1.out.below h2); replace BB1 := Lib.hid (BB1.out.trans (h2.mono BB1.out.size)); replace Q1 := Lib.hid (Q1.out.below h2)
      clear h2
      go_wp2_with fail
      refine (MB.out _ Q1.out).mono ?_
      rintro e Y3 ⟨VY, rfl, h1, h2⟩
      have RY := Lib.hid h1.reads
      replace RB1 := Lib.hid (RB1.out.below h2); replace BB1 := Lib.hid (BB1.out.trans (h2.mono BB1.out.size))
      clear h1 h2
      go_wp2_with fail
      refine (same_x RB1.out RY.out rfl).mono ?_
      rintro e Y4 ⟨rfl, h2⟩
      replace BB1 := Lib.hid (BB1.out.trans (h2.mono BB1.out.size))
      clear h2
      go_wp2_with fail
      go_ret
      exact ⟨rfl, BB1.out⟩

end Go.Proofs.Ytkbcepgnjoeneaa
