/- The chapter's own run, ahead. -/
import Derived.Test.YtdcokkgdahbinaaVMiniMh
set_option linter.unusedVariables false
set_option linter.unusedSimpArgs false
set_option maxRecDepth 100000
set_option maxHeartbeats 8000000
namespace Go.Proofs.Ytdcokkgdahbinaa
open Go Go.RowKit Go.Proofs
theorem info_vec3 : (Try.prog.info? 53).map (fun i => (i.zero, i.size, i.bytes)) = some (some (.agg #[.int .i64 0, .int .i64 0, .int .i64 0]), 3, 24) := by kernel_rfl
def fwdS (T : List (List Nat)) (t : List Nat) (i : Nat) : Nat := runN T 0 (t.take i)
theorem fwdS_step (T : List (List Nat)) {t : List Nat} {i : Nat} (h : i < t.length) : fwdS T t (i + 1) = trN T (fwdS T t i) (t.getD i 0) := by
 unfold fwdS
 rw [List.take_add_one, List.getElem?_eq_getElem h]
 show runN T 0 (t.take i ++ [t[i]]) = _
 rw [runN_snoc]
 simp [List.getD, List.getElem?_eq_getElem h]
theorem fwdS_lt {T : List (List Nat)} {k : Nat} (hT : RectN T k) {t : List Nat} (ht : ∀ a ∈ t, a < k) (j : Nat) : fwdS T t j < T.length :=
 runN_lt hT _ 0 hT.pos (fun a ha => ht a (List.mem_of_mem_take ha))
def frunV (T : List (List Nat)) (E : List (List V3)) (t p : List Nat) (i : Nat) : V3 := (E.getD (fwdS T t i) []).getD (p.getD i 0) zV
def frunL (T : List (List Nat)) (E : List (List V3)) (t p : List Nat) (n : Nat) : List V3 := (List.range n).map (frunV T E t p)
theorem frunL_succ (T : List (List Nat)) (E : List (List V3)) (t p : List Nat) (n : Nat) : frunL T E t p (n + 1) = frunL T E t p n ++ [frunV T E t p n] := by unfold frunL; rw [List.range_succ, List.map_append]; rfl
theorem row_cap {w : World} {B : Nat} {e : TypeId} {s g n c m : Nat} {xs : List Value} (h : w.ownsRow B e s (sl g n c) m xs) : n <= c /\ c <= 9223372036854775807 := by
 rcases h.2 with ⟨e, _⟩ | ⟨g', cap, cur, e, _, _, r1, r2, _⟩
 ·cases e
 ·simp only [Value.slice.injEq, Option.some.injEq, Addr.mk.injEq, and_true] at e
  obtain ⟨rfl, rfl, rfl⟩ := e
  exact ⟨r1, by unfold maxLen at r2; exact r2⟩
theorem frun_any {w : World} {NA OA TA PA : Option Addr} {nc oc tc pc n k m q pl : Nat} {T : List (List Nat)} {E : List (List V3)} {t p : List Nat} (h : NextR w (.slice NA n nc) T) (hl : T.length = n) (hT : RectN T k) (ho : EmitR w (.slice OA n oc) E) (hel : E.length = n) (hq : ∀ i, i < n -> (E.getD i []).length = q)
  (ht : ReadsI w (.slice TA m tc) m (intsN t)) (htk : ∀ a ∈ t, a < k) (hp : ReadsI w (.slice PA pl pc) pl (intsN p)) (hpq : ∀ a ∈ p, a < q) (hpl : m + 1 <= pl) (hm : m <= 500) :
  Calls Try.prog 27 #[.agg #[.slice NA n nc, .slice OA n oc], .slice TA m tc, .slice PA pl pc] w fun e w' => ∃ A c, e = .returned (.slice A (m + 1) c) /\ ReadsE encV 3 w' (.slice A (m + 1) c) (m + 1) (frunL T E t p (m + 1)) /\ Below w.heap.size w w' := by
  have htl : t.length = m := by have := ht.1; simpa [intsN] using this
  have hpll : p.length = pl := by have := hp.1; simpa [intsN] using this
  obtain ⟨a1, c1', e1, q1, q2⟩ := h.form
  rw [hl] at q1
  simp only [Value.slice.injEq] at e1
  obtain ⟨rfl, -, rfl⟩ := e1
  obtain ⟨a1, c1', e1, q3, q4⟩ := ho.form
  rw [hel] at q3
  simp only [Value.slice.injEq] at e1
  obtain ⟨rfl, -, rfl⟩ := e1
  obtain ⟨a1, c1', e1, q5, q6, -⟩ := ht.form
  obtain ⟨a2, c2', e2, q7, q8, -⟩ := hp.form
  simp only [Value.slice.injEq, true_and] at e1 e2
  obtain ⟨rfl, rfl⟩ := e1
  obtain ⟨rfl, rfl⟩ := e2
  obtain ⟨W0, hW0⟩ : ∃ W, w.alloc (.cells #[.slice NA n nc, .slice OA n oc] 30) = W := ⟨_, rfl⟩
  have hb0 : Below w.heap.size w W0 := by rw [<- hW0]; exact (Below.refl _ _).alloc (Nat.le_refl _) _
  have hx3 : Blk W0 w.heap.size 30 #[.slice NA n nc, .slice OA n oc] := by rw [<- hW0]; exact Blk.new _ _ _
  obtain ⟨b3, hb3⟩ : ∃ b, b = w.heap.size := ⟨_, rfl⟩
  rw [<- hb3] at hx3
  have H1 := Lib.hid (h.below hb0); have H2 := Lib.hid (ho.below hb0); have H3 := Lib.hid (ht.below hb0); have H4 := Lib.hid (hp.below hb0); have HL := Lib.hid hl; have HEL := Lib.hid hel; have HQ := Lib.hid hq; have HT := Lib.hid hT; have HTK := Lib.hid htk; have HPQ := Lib.hid hpq; have HTL := Lib.hid htl; have HPLL := Lib.hid hpll; have HW0 := Lib.hid hW0; have HB0 := Lib.hid hb0; have X3 := Lib.hid hx3; have HB3 := Lib.hid hb3
  clear h ho ht hp hl hel hq hT htk hpq htl hpll hW0 hb0 hx3 hb3
  have m0 : (0 : Int) <= (m : Int) := Int.natCast_nonneg _
  go_enter Try.func27, Try.ntmps27
  go_wp2_with fail
  rw [HW0.out, <- HB3.out]
  go_loopw [7, 8, 9] (fun v7 v8 v9 wr => ∃ (i : Nat) (VA : Option Addr) (vc : Nat), v7 = .slice VA i vc /\ i <= vc /\ vc <= 9223372036854775807 /\ v9 = .int .i64 (i : Int) /\ i <= m + 1 /\ v8 = .int .i64 ((fwdS T t i : Nat) : Int) /\ Hid (wr.ownsRow W0.heap.size 53 3 (.slice VA i vc) i ((frunL T E t p i).flatMap encV)) /\ Hid (Below W0.heap.size W0 wr)) (fun _ _ v9 _ => m + 1 - (intOf v9).toNat)
  case atStart => exact ⟨0, none, 0, rfl, Nat.le_refl _, by omega, rfl, Nat.zero_le _, rfl, Lib.hid (World.ownsRow_nil _ _ _ _), Lib.hid (Below.refl _ _)⟩
  case round =>
   obtain ⟨i, VA, vc, rfl, hvc, hvc2, rfl, hi, rfl, HO, HB⟩ := hrel
   have i0 : (0 : Int) <= (i : Int) := Int.natCast_nonneg _
   by_cases hlt : i <= m
   ·have i1 : (i : Int) <= (m : Int) := by omega
    have t1 : decide (i <= m) = true := by simpa using hlt
    have hbw := HB.out
    have hsl := fwdS_lt HT.out HTK.out i
    obtain ⟨g1, o1, A2, qn, c2, e1, hqn, d1, r1, l1, l2⟩ := H2.out.at_ (i := fwdS T t i) (by rw [HEL.out, <- HL.out]; exact hsl)
    subst e1
    have hqq : qn = q := by rw [hqn]; exact HQ.out _ (by rw [<- HL.out]; exact hsl)
    obtain ⟨g3, o3, e3, hg3, d3⟩ := H4.out.at i (by omega)
    subst e3
    rw [intsN_at] at d3
    have hpa : p.getD i 0 < q := HPQ.out _ (by
     rw [List.getD_eq_getElem?_getD, List.getElem?_eq_getElem (by rw [HPLL.out]; omega)]
     exact List.getElem_mem _)
    have hel2 : p.getD i 0 < (E.getD (fwdS T t i) []).length := by rw [<- hqn, hqq]; exact hpa
    have hus : (E.getD (fwdS T t i) [])[p.getD i 0]? = some (frunV T E t p i) := by
     unfold frunV
     rw [List.getElem?_eq_getElem hel2, List.getD_eq_getElem?_getD (l := E.getD (fwdS T t i) []), List.getElem?_eq_getElem hel2]
     rfl
    obtain ⟨g2, o2, e2, -, hcl⟩ := r1.at encV_len (by decide) _ _ hus
    subst e2
    have s0 := hcl 0 _ rfl; have s1 := hcl 1 _ rfl; have s2 := hcl 2 _ rfl
    rw [Nat.add_zero] at s0
    have hg1 := World.block_lt_of_cell? W0 _ d1
    have hg2 := World.block_lt_of_cell? W0 _ s0
    have hg0 := X3.out.lt
    replace d1 := bel_m hbw d1
    replace d3 := bel_m hbw d3
    replace s0 := bel_m hbw s0
    replace s1 := bel_m hbw s1
    replace s2 := bel_m hbw s2
    have hx := Blk.below X3.out hbw X3.out.lt
    have c30 := hx.cell 0; have c31 := hx.cell 1
    simp only [List.getElem?_toArray, List.getElem?_cons_zero, List.getElem?_cons_succ] at c30 c31
    have hsn : fwdS T t i < n := by rw [<- HL.out]; exact hsl
    have hFS := frunL_succ T E t p i
    obtain ⟨⟨x, y, z⟩, hv⟩ : ∃ v : V3, frunV T E t p i = v := ⟨_, rfl⟩
    rw [hv] at s0 s1 s2 hFS
    have HFS := Lib.hid hFS
    rw [<- hqq] at hpa
    have HQE := Lib.hid hqq; have HQN := Lib.hid hqn
    have HXW := Lib.hid hx; have HBB := HB
    have HS0 : Hid ((fun W : World => W.cell? ⟨b3, 1, none⟩ = some (.slice (some ⟨g1, o1, none⟩) n oc) /\ W.cell? ⟨g1, o1 + fwdS T t i, none⟩ = some (.slice (some ⟨g2, o2, none⟩) qn c2) /\ W.cell? ⟨g3, o3 + i, none⟩ = some (.int .i64 ((p.getD i 0 : Nat) : Int)) /\ W.cell? ⟨g2, o2 + (p.getD i 0) * 3, none⟩ = some (.int .i64 x) /\ W.cell? ⟨g2, o2 + (p.getD i 0) * 3 + 1, none⟩ = some (.int .i64 y) /\ W.cell? ⟨g2, o2 + (p.getD i 0) * 3 + 2, none⟩ = some (.int .i64 z)) wr) := Lib.hid ⟨c31, d1, d3, s0, s1, s2⟩
    obtain ⟨s, hs⟩ : ∃ s, fwdS T t i = s := ⟨_, rfl⟩
    obtain ⟨a, ha⟩ : ∃ a, p.getD i 0 = a := ⟨_, rfl⟩
    rw [ha] at hpa HS0
    have HSE := Lib.hid hs
    rw [hs] at hsn HS0 ⊢
    have a0 : (0 : Int) <= (a : Int) := Int.natCast_nonneg _
    have a1 : (a : Int) < (qn : Int) := by omega
    have z0 : (0 : Int) <= (s : Int) := Int.natCast_nonneg _
    have z1 : (s : Int) < (n : Int) := by omega
    have p1' : (i : Int) < (pl : Int) := by omega
    have HKS : Hid (∀ W, Below wr.heap.size wr W -> (fun W : World => W.cell? ⟨b3, 1, none⟩ = some (.slice (some ⟨g1, o1, none⟩) n oc) /\ W.cell? ⟨g1, o1 + s, none⟩ = some (.slice (some ⟨g2, o2, none⟩) qn c2) /\ W.cell? ⟨g3, o3 + i, none⟩ = some (.int .i64 (a : Int)) /\ W.cell? ⟨g2, o2 + a * 3, none⟩ = some (.int .i64 x) /\ W.cell? ⟨g2, o2 + a * 3 + 1, none⟩ = some (.int .i64 y) /\ W.cell? ⟨g2, o2 + a * 3 + 2, none⟩ = some (.int .i64 z)) W) := Lib.hid (fun W hW => ⟨bel_m hW HS0.out.1, bel_m hW HS0.out.2.1, bel_m hW HS0.out.2.2.1, bel_m hW HS0.out.2.2.2.1, bel_m hW HS0.out.2.2.2.2.1, bel_m hW HS0.out.2.2.2.2.2⟩)
    have HKG : Hid (∀ V W, Below wr.heap.size wr V -> V.grownBy W (Value.slice VA i vc).ownBlock -> W0.heap.size <= V.heap.size -> (∀ z, (Value.slice VA i vc).ownBlock = some z -> W0.heap.size <= z) -> (fun W : World => W.cell? ⟨b3, 1, none⟩ = some (.slice (some ⟨g1, o1, none⟩) n oc) /\ W.cell? ⟨g1, o1 + s, none⟩ = some (.slice (some ⟨g2, o2, none⟩) qn c2) /\ W.cell? ⟨g3, o3 + i, none⟩ = some (.int .i64 (a : Int)) /\ W.cell? ⟨g2, o2 + a * 3, none⟩ = some (.int .i64 x) /\ W.cell? ⟨g2, o2 + a * 3 + 1, none⟩ = some (.int .i64 y) /\ W.cell? ⟨g2, o2 + a * 3 + 2, none⟩ = some (.int .i64 z)) W) := Lib.hid (fun V W hV hG _ hz => by
     have hne : ∀ b : Nat, b < W0.heap.size -> some b ≠ (Value.slice VA i vc).ownBlock := fun b hb e => by
      have := hz b e.symm; omega
     exact ⟨hG.cell (bel_m hV HS0.out.1) (hne _ hg0), hG.cell (bel_m hV HS0.out.2.1) (hne _ hg1), hG.cell (bel_m hV HS0.out.2.2.1) (hne _ hg3), hG.cell (bel_m hV HS0.out.2.2.2.1) (hne _ hg2), hG.cell (bel_m hV HS0.out.2.2.2.2.1) (hne _ hg2), hG.cell (bel_m hV HS0.out.2.2.2.2.2) (hne _ hg2)⟩)
    have HO0 := HO
    have HBW : Hid (W0.heap.size <= wr.heap.size) := Lib.hid HB.out.size
    have hi9 : i <= 1000000 := by omega
    clear hbw hsl hqn d1 r1 hqq d3 hel2 hus hcl s0 s1 s2 hx c30 c31 hFS hv hs ha
    go_wp2_with fail
    have hb : Below wr.heap.size wr wr.drew := (Below.refl _ _).drew
    have hS := HKS.out _ hb
    have hO := ownsRow_bel HO0.out hb
    have hBV : W0.heap.size <= wr.drew.heap.size := Nat.le_trans HBW.out hb.size
    refine region_x 14 (fun W : World => W.cell? ⟨b3, 1, none⟩ = some (.slice (some ⟨g1, o1, none⟩) n oc) /\ W.cell? ⟨g1, o1 + s, none⟩ = some (.slice (some ⟨g2, o2, none⟩) qn c2) /\ W.cell? ⟨g3, o3 + i, none⟩ = some (.int .i64 (a : Int)) /\ W.cell? ⟨g2, o2 + a * 3, none⟩ = some (.int .i64 x) /\ W.cell? ⟨g2, o2 + a * 3 + 1, none⟩ = some (.int .i64 y) /\ W.cell? ⟨g2, o2 + a * 3 + 2, none⟩ = some (.int .i64 z)) (by kernel_rfl) ?_
    generalize wr.drew = V0 at *
    refine tkx (i := 0) (v := ?_) hS ?_ ?_
    rotate_left
    ·rintro w' ⟨s0', s1', s2', s3', s4', s5'⟩
     go_simp
     try with_reducible rfl
    try simp only [Act.put, zq1, zq2, zq3, zq4, zq5, zq6]
    refine tkx (i := 1) (v := ?_) hS ?_ ?_
    rotate_left
    ·rintro w' ⟨s0', s1', s2', s3', s4', s5'⟩
     go_simp
     try with_reducible rfl
    try simp only [Act.put, zq1, zq2, zq3, zq4, zq5, zq6]
    refine tkx (i := 2) (v := ?_) hS ?_ ?_
    rotate_left
    ·rintro w' ⟨s0', s1', s2', s3', s4', s5'⟩
     go_simp
     try with_reducible rfl
    try simp only [Act.put, zq1, zq2, zq3, zq4, zq5, zq6]
    refine tkx (i := 3) (v := ?_) hS ?_ ?_
    rotate_left
    ·rintro w' ⟨s0', s1', s2', s3', s4', s5'⟩
     go_simp
     try with_reducible rfl
    try simp only [Act.put, zq1, zq2, zq3, zq4, zq5, zq6]
    refine tkx (i := 4) (v := ?_) hS ?_ ?_
    rotate_left
    ·rintro w' ⟨s0', s1', s2', s3', s4', s5'⟩
     go_simp
     try with_reducible rfl
    try simp only [Act.put, zq1, zq2, zq3, zq4, zq5, zq6]
    refine tkx (i := 5) (v := ?_) hS ?_ ?_
    rotate_left
    ·rintro w' ⟨s0', s1', s2', s3', s4', s5'⟩
     go_simp
     try with_reducible rfl
    try simp only [Act.put, zq1, zq2, zq3, zq4, zq5, zq6]
    refine tkx (i := 6) (v := ?_) hS ?_ ?_
    rotate_left
    ·rintro w' ⟨s0', s1', s2', s3', s4', s5'⟩
     go_simp
     try with_reducible rfl
    try simp only [Act.put, zq1, zq2, zq3, zq4, zq5, zq6]
    refine tkx (i := 7) (v := ?_) hS ?_ ?_
    rotate_left
    ·rintro w' ⟨s0', s1', s2', s3', s4', s5'⟩
     go_simp
     try with_reducible rfl
    try simp only [Act.put, zq1, zq2, zq3, zq4, zq5, zq6]
    refine tkx (i := 8) (v := ?_) hS ?_ ?_
    rotate_left
    ·rintro w' ⟨s0', s1', s2', s3', s4', s5'⟩
     go_simp
     try with_reducible rfl
    try simp only [Act.put, zq1, zq2, zq3, zq4, zq5, zq6]
    refine tkx (i := 9) (v := ?_) hS ?_ ?_
    rotate_left
    ·rintro w' ⟨s0', s1', s2', s3', s4', s5'⟩
     go_simp
     try with_reducible rfl
    try simp only [Act.put, zq1, zq2, zq3, zq4, zq5, zq6]
    refine tkx (i := 10) (v := ?_) hS ?_ ?_
    rotate_left
    ·rintro w' ⟨s0', s1', s2', s3', s4', s5'⟩
     go_simp
     try with_reducible rfl
    try simp only [Act.put, zq1, zq2, zq3, zq4, zq5, zq6]
    refine tkx (i := 11) (v := ?_) hS ?_ ?_
    rotate_left
    ·rintro w' ⟨s0', s1', s2', s3', s4', s5'⟩
     go_simp
     try with_reducible rfl
    try simp only [Act.put, zq1, zq2, zq3, zq4, zq5, zq6]
    refine anyX_g (i := 12) (by kernel_rfl) (by decide) rfl (by rfl) ?_
    intro K hK
    try simp only [zq1, zq2, zq3]
    go_simp
    obtain ⟨V1, eV⟩ : ∃ W', V0.alloc (.cells #[.int .i64 x, .int .i64 y, .int .i64 z] 53) = W' := ⟨_, rfl⟩
    have hbn : Below V0.heap.size V0 V1 := by rw [<- eV]; exact (Below.refl _ _).alloc (Nat.le_refl _) _
    have xb : Blk V1 V0.heap.size 53 #[.int .i64 x, .int .i64 y, .int .i64 z] := by rw [<- eV]; exact Blk.new _ _ _
    rw [eV]
    clear eV
    replace hO := ownsRow_bel hO hbn
    replace hb := hb.trans (hbn.mono hb.size)
    have hBV1 : W0.heap.size <= V1.heap.size := Nat.le_trans hBV hbn.size
    clear hbn
    replace hS := HKS.out _ hb
    obtain ⟨p1, hp1⟩ : ∃ p, p = V0.heap.size := ⟨_, rfl⟩
    rw [<- hp1] at xb ⊢
    clear hp1
    refine hK _ _ hS ?_
    clear hK
    try simp only [Act.put, zq1, zq2, zq3, zq4, zq5, zq6]
    refine anyX_g (i := 13) (by kernel_rfl) (by decide) rfl (by rfl) ?_
    intro K hK
    try simp only [zq1, zq2, zq3]
    refine wp_pushK rfl (.tmp 16) (.tmp 28) 42 53 rfl 3 24 _ Try.underlying42 info_vec3 rfl (by omega) (by omega) W0.heap.size (.slice VA i vc) i _ (by rfl) hO p1 (by rfl) #[.int .i64 x, .int .i64 y, .int .i64 z] rfl xb (by simp [Value.oneCell']) hi9 hBV1 ?_
    intro g9 cap9 V2 q1 q2 q3
    have hgr := hO.lt
    have hS : (fun W : World => W.cell? ⟨b3, 1, none⟩ = some (.slice (some ⟨g1, o1, none⟩) n oc) /\ W.cell? ⟨g1, o1 + s, none⟩ = some (.slice (some ⟨g2, o2, none⟩) qn c2) /\ W.cell? ⟨g3, o3 + i, none⟩ = some (.int .i64 (a : Int)) /\ W.cell? ⟨g2, o2 + a * 3, none⟩ = some (.int .i64 x) /\ W.cell? ⟨g2, o2 + a * 3 + 1, none⟩ = some (.int .i64 y) /\ W.cell? ⟨g2, o2 + a * 3 + 2, none⟩ = some (.int .i64 z)) V2 := HKG.out _ _ hb q2 hBV1 (fun z hz => (hgr z hz).1)
    have hbw := below_grown (HBB.out.trans (hb.mono HBW.out)) q2 hBV1 (fun z hz => (hgr z hz).1)
    clear hO hb xb hgr q2 q3 hBV1 hBV
    refine hK _ _ hS ?_
    clear hK
    try simp only [Act.put, zq1, zq2, zq3, zq4, zq5, zq6]
    refine anyX_last (by kernel_rfl) (by kernel_rfl) rfl rfl ?_
    try simp only [zq1, zq2, zq3]
    go_simp
    try apply_assumption
    clear hS
    have HO2 : Hid (V2.ownsRow W0.heap.size 53 3 (sl g9 (i + 1) cap9) (i + 1) ((frunL T E t p (i + 1)).flatMap encV)) := Lib.hid (by
     rw [HFS.out, List.flatMap_append]
     exact q1)
    obtain ⟨hc9, hc10⟩ := row_cap q1
    have HB2 := Lib.hid hbw
    clear q1 hbw
    by_cases hlm : i < m
    ·have i2 : (i : Int) < (m : Int) := by omega
     have t2 : decide (i < m) = true := by simpa using hlm
     have hbw := HB2.out
     have hx := Blk.below X3.out hbw X3.out.lt
     have c30 := hx.cell 0
     simp only [List.getElem?_toArray, List.getElem?_cons_zero, List.getElem?_cons_succ] at c30
     have hsl : s < T.length := by rw [HL.out]; exact hsn
     have hta : t.getD i 0 < k := HTK.out _ (by
      rw [List.getD_eq_getElem?_getD, List.getElem?_eq_getElem (by rw [HTL.out]; omega)]
      exact List.getElem_mem _)
     obtain ⟨g5, o5, A5, m5, c5, e5, hm5, d5, r5, l5, l6⟩ := (H1.out.below hbw).at_ (i := s) hsl
     subst e5
     obtain ⟨g6, o6, e6, -, d6⟩ := (H3.out.below hbw).at i hlm
     subst e6
     rw [intsN_at] at d6
     have hm5k : m5 = k := by rw [hm5]; exact HT.out.len _ hsl
     obtain ⟨g7, o7, e7, -, d7⟩ := r5.at (t.getD i 0) (by rw [hm5k]; exact hta)
     subst e7
     have hst : trN T s (t.getD i 0) = fwdS T t (i + 1) := by rw [fwdS_step T (by rw [HTL.out]; exact hlm), HSE.out]
     have e8 : (intsN (T.getD s [])).getD (t.getD i 0) 0 = ((fwdS T t (i + 1) : Nat) : Int) := by rw [intsN_at, <- hst]; rfl
     rw [e8] at d7
     rw [<- hm5k] at hta
     have HM5 := Lib.hid hm5k
     obtain ⟨b, hb9⟩ : ∃ b, t.getD i 0 = b := ⟨_, rfl⟩
     rw [hb9] at d6 d7 hta
     obtain ⟨s', hs'⟩ : ∃ s', fwdS T t (i + 1) = s' := ⟨_, rfl⟩
     rw [hs'] at d7
     have HS' := Lib.hid hs'
     clear hx hsl hm5 r5 hm5k hst e8 hb9 hs' hbw
     have b0 : (0 : Int) <= (b : Int) := Int.natCast_nonneg _
     have b1 : (b : Int) < (m5 : Int) := by omega
     go_wp2_with fail
     go_big_quiet (fail)
     go_wp2_with fail
     exact ⟨⟨i + 1, _, cap9, rfl, hc9, hc10, by go_num, by omega, by rw [HS'.out], HO2, Lib.hid (below_drewN HB2.out nq)⟩, by simp [intOf]; omega⟩
    ·have t2 : decide (i < m) = false := by simpa using hlm
     have hs2 : Hid (fwdS T t (i + 1) = s) := Lib.hid (by
      rw [<- HSE.out]
      unfold fwdS
      rw [List.take_of_length_le (by rw [HTL.out]; omega), List.take_of_length_le (by rw [HTL.out]; omega)])
     go_wp2_with fail
     exact ⟨⟨i + 1, _, cap9, rfl, hc9, hc10, by go_num, by omega, by rw [hs2.out], HO2, HB2⟩, by simp [intOf]; omega⟩
   ·obtain rfl : i = m + 1 := by omega
    have hr := OwnE.reads (enc := encV) (t := 53) (k := 3) HO.out encV_len (by decide)
    have HRR := Lib.hid hr
    have e1 : ((m + 1 : Nat) : Int) = (m : Int) + 1 := by omega
    have e2 : ¬ (m : Int) + 1 <= (m : Int) := by omega
    clear hr hlt
    go_wp2_with fail
    go_ret
    exact ⟨_, _, rfl, HRR.out, HB0.out.trans (HB.out.mono HB0.out.size)⟩
end Go.Proofs.Ytdcokkgdahbinaa
