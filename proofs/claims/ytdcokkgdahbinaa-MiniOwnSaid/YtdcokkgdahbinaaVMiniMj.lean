/- The chapter's own Pick. -/
import Derived.Test.YtdcokkgdahbinaaVMiniMi
set_option linter.unusedVariables false
set_option linter.unusedSimpArgs false
set_option maxRecDepth 100000
set_option maxHeartbeats 8000000
namespace Go.Proofs.Ytdcokkgdahbinaa
open Go Go.RowKit Go.Proofs
theorem wp_concatI {w : World} {o : Oper} {a : Act} {K : Act -> World -> Prop} {Q : Exit -> Act -> World -> Prop} (hgd : o.guard = none) (s x : Operand)
  (ho : o.op = .call { callee := .builtin .append, args := #[s, x], argTypes := #[22, 22] })
  (B : Nat) (v : Value) (n : Nat) (l : List Int) (hs : a.eval s = v) (hown : Own w B v n l)
  (u : Value) (m : Nat) (l' : List Int) (hx : a.eval x = u) (hu : ReadsI w u m l') (hnm : n + m <= 1000000000) (hB : B <= w.heap.size)
  (h : ∀ v' w', Own w' B v' (n + m) (l ++ l') -> Below B w w' -> w.grownBy w' v.ownBlock -> (v'.ownBlock = v.ownBlock \/ v'.ownBlock = some w.heap.size) -> K (a.put o.dst v') w') : Oper.wp Try.prog o a w K Q := by
  obtain ⟨v', w', hr, h2, h3, h4, h5⟩ := run_concatI o.type hown hu hnm hB
  unfold Oper.wp execOp
  simp only [ho, resolve, invoke, builtin, Sem.run_bind, Sem.run_pure, Result.andThen_ok, List.map_toArray, List.map_cons, List.map_nil, hs, hx, hr]
  exact h v' w' h2 h3 h4 h5
theorem own_base {w : World} {p n c : Nat} {l : List Int} (h : Own w p (sl p n c) n l) : p <= w.heap.size := Nat.le_of_lt (h.lt p rfl).2
theorem apart_lt {V V' : World} {B e e' sz k p m : Nat} {v u : Value} {xss : List (Nat × List Value)} {l : List Int} (h : OwnLL V B e e' sz v k xss) (hu : Own V' p u m l) (hp : V.heap.size <= p) : Apart v u := by
 cases hv : v.ownBlock with
 | none => exact .inl hv
 | some z =>
   refine .inr (.inr (fun q => ?_))
   rw [hv] at q
   have h1 := (h.lt z hv).2
   have h2 := (hu.lt z q.symm).1
   omega
theorem rpick_any {w : World} {NA OA LA : Option Addr} {nc oc n k q l lc : Nat} {T : List (List Nat)} {E : List (List V3)} {ls : List Nat} (h : NextR w (.slice NA n nc) T) (hl : T.length = n) (hT : RectN T k) (ho : EmitR w (.slice OA n oc) E) (hel : E.length = n) (hq : ∀ i, i < n -> (E.getD i []).length = q)
  (hv : ReadsI w (.slice LA l lc) l (intsN ls)) (hls : ∀ a ∈ ls, a < q) (hl9 : l <= 1000) (hn : n <= 1000) (hk : k <= 1000) :
  Calls Try.prog 29 #[.agg #[.slice NA n nc, .slice OA n oc], .slice LA l lc] w fun e w' => ∃ vn vo, e = .returned (.agg #[vn, vo]) /\ OwnLL w' w.heap.size 22 3 1 vn n (xssT T n) /\ OwnLL w' w.heap.size 42 53 3 vo n (xssK E ls l n) /\ Below w.heap.size w w' := by
  have hpos : 0 < n := by have := hT.pos; omega
  obtain ⟨OA', c', e, hoc, hoc2⟩ := ho.form
  rw [hel] at hoc
  simp only [Value.slice.injEq] at e
  obtain ⟨rfl, -, rfl⟩ := e
  obtain ⟨NA', nc', e, hnc, hnc2⟩ := h.form
  rw [hl] at hnc
  simp only [Value.slice.injEq] at e
  obtain ⟨rfl, -, rfl⟩ := e
  obtain ⟨LA', lc', e, hlc, hlc2, -⟩ := hv.form
  simp only [Value.slice.injEq, true_and] at e
  obtain ⟨rfl, rfl⟩ := e
  have hlsl : ls.length = l := by have := hv.1; simpa [intsN] using this
  obtain ⟨W4, hW4⟩ : ∃ W, ((w.alloc (.cells #[.slice NA n nc, .slice OA n oc] 30)).alloc (.cells #[.slice none 0 0, .slice none 0 0] 30)).alloc (.cells #[.slice none 0 0, .slice none 0 0] 30) = W := ⟨_, rfl⟩
  have hb4 : Below w.heap.size w W4 := by rw [<- hW4]; exact (((Below.refl _ _).alloc (Nat.le_refl _) _).alloc (by simp) _).alloc (by simp; omega) _
  have hx2 : Blk W4 w.heap.size 30 #[.slice NA n nc, .slice OA n oc] := by rw [<- hW4]; exact ((Blk.new _ _ _).alloc _).alloc _
  have hx4 : Blk W4 (w.heap.size + 1) 30 #[.slice none 0 0, .slice none 0 0] := by
   rw [<- hW4]
   have := Blk.new (w.alloc (.cells #[.slice NA n nc, .slice OA n oc] 30)) 30 #[.slice none 0 0, .slice none 0 0]
   rw [World.size_alloc] at this
   exact this.alloc _
  have hx5 : Blk W4 (w.heap.size + 1 + 1) 30 #[.slice none 0 0, .slice none 0 0] := by
   rw [<- hW4]
   have := Blk.new ((w.alloc (.cells #[.slice NA n nc, .slice OA n oc] 30)).alloc (.cells #[.slice none 0 0, .slice none 0 0] 30)) 30 #[.slice none 0 0, .slice none 0 0]
   rw [World.size_alloc, World.size_alloc] at this
   exact this
  obtain ⟨b2, hb2⟩ : ∃ b, b = w.heap.size := ⟨_, rfl⟩
  obtain ⟨b4, hb4'⟩ : ∃ b, b = w.heap.size + 1 := ⟨_, rfl⟩
  obtain ⟨b5, hb5⟩ : ∃ b, b = w.heap.size + 1 + 1 := ⟨_, rfl⟩
  rw [<- hb2] at hx2
  rw [<- hb4'] at hx4
  rw [<- hb5] at hx5
  obtain ⟨B, hB⟩ : ∃ B, W4.heap.size = B := ⟨_, rfl⟩
  have hBb : b5 < B := by rw [<- hB]; exact hx5.lt
  have h0B : w.heap.size <= B := by rw [<- hB]; exact hb4.size
  have hz : b2 < b5 /\ b4 < b5 /\ w.heap.size <= b4 := by omega
  obtain ⟨z1, z2, z3⟩ := hz
  have hst : PickAt W4 W4 B b5 T E ls l 0 := ⟨none, 0, none, 0, hx5, OwnLL.nil _ _ _ _ _, OwnLL.nil _ _ _ _ _, Fr.refl _ _⟩
  have HST := Lib.hid hst; have HNR := Lib.hid h; have HOR := Lib.hid ho; have HV := Lib.hid hv; have HL := Lib.hid hl; have HT := Lib.hid hT; have HEL := Lib.hid hel; have HQ := Lib.hid hq; have HLS := Lib.hid hls; have HLSL := Lib.hid hlsl; have HW4' := Lib.hid hW4; have HBL4 := Lib.hid hb4; have HX2 := Lib.hid hx2; have HX4 := Lib.hid hx4; have HB2 := Lib.hid hb2; have HB4 := Lib.hid hb4'; have HB5E := Lib.hid hb5; have HW4 := Lib.hid hB; have HB5 := Lib.hid hBb
  clear h ho hv hl hT hel hq hls hlsl hW4 hb4 hx2 hx4 hx5 hb2 hb4' hb5 hB hBb hst
  have l0 : (0 : Int) <= (l : Int) := Int.natCast_nonneg _
  go_enter Try.func29, Try.ntmps29
  go_wp2_with fail
  rw [HW4'.out, <- HB5E.out, <- HB4.out, <- HB2.out]
  go_loopw [6] (fun vi wr => ∃ i : Nat, vi = .int .i64 (i : Int) /\ i <= n /\ Hid (PickAt W4 wr B b5 T E ls l i)) (fun vi _ => n - (intOf vi).toNat)
  case atStart => exact ⟨0, rfl, Nat.zero_le _, HST⟩
  case round =>
   clear HST
   obtain ⟨i, rfl, hi, HJ⟩ := hrel
   obtain ⟨XA, xc, YA, yc, hxb, hno, hoo, hfr⟩ := HJ.out
   have i0 : (0 : Int) <= (i : Int) := Int.natCast_nonneg _
   have hx2 := hfr.blk HX2.out (by omega)
   have c20 := hx2.cell 0
   simp only [List.getElem?_toArray, List.getElem?_cons_zero, List.getElem?_cons_succ] at c20
   by_cases hlt : i < n
   ·have i1 : (i : Int) < (n : Int) := by omega
    have t1 : decide (i < n) = true := by simpa using hlt
    have hwB : B <= wr.heap.size := by rw [<- HW4.out]; exact hfr.size
    have hbw : Below w.heap.size w wr := HBL4.out.trans (hfr.below (by have := HBL4.out.size; omega) (fun q hq e => by omega))
    -- Emit of this state
    obtain ⟨g1, o1, A2, qn, c2, e1, hqn, d1, r1, q1', q2'⟩ := HOR.out.at_ (i := i) (by rw [HEL.out]; exact hlt)
    subst e1
    have hqq : qn = q := by rw [hqn]; exact HQ.out i hlt
    obtain ⟨gn, on, A1, m1, c1, eN, hm1, dN, rN, q3', q4'⟩ := HNR.out.at_ (i := i) (by rw [HL.out]; exact hlt)
    subst eN
    have HFR := Lib.hid hfr; have HXB := Lib.hid hxb; have HNO := Lib.hid hno; have HOO := Lib.hid hoo; have HQN := Lib.hid hqq; have HR1 := Lib.hid r1; have HD1 := Lib.hid d1; have HDN := Lib.hid dN; have HRN := Lib.hid rN; have HM1 := Lib.hid hm1; have HWB := Lib.hid hwB; have HQL := Lib.hid hqn; have HBWW := Lib.hid hbw
    obtain ⟨W5, hW5⟩ : ∃ W5, W5 = wr := ⟨_, rfl⟩
    subst hW5
    clear hfr hxb hno hoo hqq r1 d1 dN rN hm1 hwB hqn HJ hbw
    go_wp2_with fail
    go_loopw [7, 8] (fun v7 vj wr => ∃ (j : Nat) (VA : Option Addr) (vc : Nat), v7 = .slice VA j vc /\ vc <= 9223372036854775807 /\ vj = .int .i64 (j : Int) /\ j <= l /\ Hid (wr.ownsRow W5.heap.size 53 3 (.slice VA j vc) j (((ls.take j).map fun a => (E.getD i []).getD a zV).flatMap encV)) /\ Hid (Below W5.heap.size W5 wr)) (fun _ vj _ => l - (intOf vj).toNat)
    case atStart => exact ⟨0, none, 0, rfl, by omega, rfl, Nat.zero_le _, Lib.hid (World.ownsRow_nil _ _ _ _), Lib.hid (Below.refl _ _)⟩
    case round =>
     obtain ⟨j, VA, vc, rfl, hvc2, rfl, hj, HO, HB⟩ := hrel
     have j0 : (0 : Int) <= (j : Int) := Int.natCast_nonneg _
     by_cases hltj : j < l
     ·have j1 : (j : Int) < (l : Int) := by omega
      have t2 : decide (j < l) = true := by simpa using hltj
      have hlj : j < ls.length := by rw [HLSL.out]; exact hltj
      have hfr5 : Fr (fun q => q = b5) W4 wr := HFR.out.then_ (Fr.of_below (X := fun _ => False) HB.out) (fun _ _ e => e.elim)
      obtain ⟨g3, o3, e3, hg3, d3⟩ := HV.out.at j hltj
      subst e3
      rw [intsN_at] at d3
      have hpa : ls.getD j 0 < q := HLS.out _ (by
       rw [List.getD_eq_getElem?_getD, List.getElem?_eq_getElem hlj]
       exact List.getElem_mem _)
      have hel2 : ls.getD j 0 < (E.getD i []).length := by rw [<- HQL.out, HQN.out]; exact hpa
      have hus : (E.getD i [])[ls.getD j 0]? = some ((E.getD i []).getD (ls.getD j 0) zV) := by
       rw [List.getD_eq_getElem?_getD (l := E.getD i []), List.getElem?_eq_getElem hel2]; rfl
      obtain ⟨g2, o2, e2, -, hcl⟩ := HR1.out.at encV_len (by decide) _ _ hus
      subst e2
      have hFS : (ls.take (j + 1)).map (fun a => (E.getD i []).getD a zV) = (ls.take j).map (fun a => (E.getD i []).getD a zV) ++ [(E.getD i []).getD (ls.getD j 0) zV] := by
       rw [List.take_add_one, List.getElem?_eq_getElem hlj, List.map_append, List.getD_eq_getElem?_getD (l := ls), List.getElem?_eq_getElem hlj]
       rfl
      obtain ⟨⟨x, y, z⟩, hv⟩ : ∃ v : V3, (E.getD i []).getD (ls.getD j 0) zV = v := ⟨_, rfl⟩
      rw [hv] at hcl hFS
      have s0 := hcl 0 _ rfl; have s1 := hcl 1 _ rfl; have s2 := hcl 2 _ rfl
      rw [Nat.add_zero] at s0
      have HFS := Lib.hid hFS
      have hbw : Below w.heap.size w wr := HBWW.out.trans (HB.out.mono HBWW.out.size)
      have hx2 := (Blk.below (hfr5.blk HX2.out (by omega)) (Below.refl _ _) (hfr5.blk HX2.out (by omega)).lt)
      have c21 := hx2.cell 1
      simp only [List.getElem?_toArray, List.getElem?_cons_zero, List.getElem?_cons_succ] at c21
      have hg1 := World.block_lt_of_cell? w _ HD1.out
      have hg2 := World.block_lt_of_cell? w _ s0
      have hg0 : b2 < W5.heap.size := by have := HWB.out; have := HB5.out; omega
      have hw5 : w.heap.size <= W5.heap.size := HBWW.out.size
      have d1 := bel_m hbw HD1.out
      replace d3 := bel_m hbw d3
      replace s0 := bel_m hbw s0
      replace s1 := bel_m hbw s1
      replace s2 := bel_m hbw s2
      rw [<- HQN.out] at hpa
      have HS0 : Hid ((fun W : World => W.cell? ⟨b2, 1, none⟩ = some (.slice (some ⟨g1, o1, none⟩) n oc) /\ W.cell? ⟨g1, o1 + i, none⟩ = some (.slice (some ⟨g2, o2, none⟩) qn c2) /\ W.cell? ⟨g3, o3 + j, none⟩ = some (.int .i64 ((ls.getD j 0 : Nat) : Int)) /\ W.cell? ⟨g2, o2 + (ls.getD j 0) * 3, none⟩ = some (.int .i64 x) /\ W.cell? ⟨g2, o2 + (ls.getD j 0) * 3 + 1, none⟩ = some (.int .i64 y) /\ W.cell? ⟨g2, o2 + (ls.getD j 0) * 3 + 2, none⟩ = some (.int .i64 z)) wr) := Lib.hid ⟨c21, d1, d3, s0, s1, s2⟩
      obtain ⟨a, ha⟩ : ∃ a, ls.getD j 0 = a := ⟨_, rfl⟩
      rw [ha] at hpa HS0
      have a0 : (0 : Int) <= (a : Int) := Int.natCast_nonneg _
      have a1 : (a : Int) < (qn : Int) := by omega
      have HKS : Hid (∀ W, Below wr.heap.size wr W -> (fun W : World => W.cell? ⟨b2, 1, none⟩ = some (.slice (some ⟨g1, o1, none⟩) n oc) /\ W.cell? ⟨g1, o1 + i, none⟩ = some (.slice (some ⟨g2, o2, none⟩) qn c2) /\ W.cell? ⟨g3, o3 + j, none⟩ = some (.int .i64 (a : Int)) /\ W.cell? ⟨g2, o2 + a * 3, none⟩ = some (.int .i64 x) /\ W.cell? ⟨g2, o2 + a * 3 + 1, none⟩ = some (.int .i64 y) /\ W.cell? ⟨g2, o2 + a * 3 + 2, none⟩ = some (.int .i64 z)) W) := Lib.hid (fun W hW => ⟨bel_m hW HS0.out.1, bel_m hW HS0.out.2.1, bel_m hW HS0.out.2.2.1, bel_m hW HS0.out.2.2.2.1, bel_m hW HS0.out.2.2.2.2.1, bel_m hW HS0.out.2.2.2.2.2⟩)
      have HKG : Hid (∀ V W, Below wr.heap.size wr V -> V.grownBy W (Value.slice VA j vc).ownBlock -> W5.heap.size <= V.heap.size -> (∀ z, (Value.slice VA j vc).ownBlock = some z -> W5.heap.size <= z) -> (fun W : World => W.cell? ⟨b2, 1, none⟩ = some (.slice (some ⟨g1, o1, none⟩) n oc) /\ W.cell? ⟨g1, o1 + i, none⟩ = some (.slice (some ⟨g2, o2, none⟩) qn c2) /\ W.cell? ⟨g3, o3 + j, none⟩ = some (.int .i64 (a : Int)) /\ W.cell? ⟨g2, o2 + a * 3, none⟩ = some (.int .i64 x) /\ W.cell? ⟨g2, o2 + a * 3 + 1, none⟩ = some (.int .i64 y) /\ W.cell? ⟨g2, o2 + a * 3 + 2, none⟩ = some (.int .i64 z)) W) := Lib.hid (fun V W hV hG _ hz => by
       have hne : ∀ b : Nat, b < W5.heap.size -> some b ≠ (Value.slice VA j vc).ownBlock := fun b hb e => by
        have := hz b e.symm; omega
       exact ⟨hG.cell (bel_m hV HS0.out.1) (hne _ hg0), hG.cell (bel_m hV HS0.out.2.1) (hne _ (Nat.lt_of_lt_of_le hg1 hw5)), hG.cell (bel_m hV HS0.out.2.2.1) (hne _ (Nat.lt_of_lt_of_le hg3 hw5)), hG.cell (bel_m hV HS0.out.2.2.2.1) (hne _ (Nat.lt_of_lt_of_le hg2 hw5)), hG.cell (bel_m hV HS0.out.2.2.2.2.1) (hne _ (Nat.lt_of_lt_of_le hg2 hw5)), hG.cell (bel_m hV HS0.out.2.2.2.2.2) (hne _ (Nat.lt_of_lt_of_le hg2 hw5))⟩)
      have hj9 : j <= 1000000 := by omega
      clear hbw hlj hfr5 d1 d3 hel2 hus hcl s0 s1 s2 hx2 c21 hFS hv ha c20
      go_wp2_with fail
      have hb : Below wr.heap.size wr wr.drew := (Below.refl _ _).drew
      have hS := HKS.out _ hb
      have hO := ownsRow_bel HO.out hb
      have hBV : W5.heap.size <= wr.drew.heap.size := Nat.le_trans HB.out.size hb.size
      refine region_x 14 (fun W : World => W.cell? ⟨b2, 1, none⟩ = some (.slice (some ⟨g1, o1, none⟩) n oc) /\ W.cell? ⟨g1, o1 + i, none⟩ = some (.slice (some ⟨g2, o2, none⟩) qn c2) /\ W.cell? ⟨g3, o3 + j, none⟩ = some (.int .i64 (a : Int)) /\ W.cell? ⟨g2, o2 + a * 3, none⟩ = some (.int .i64 x) /\ W.cell? ⟨g2, o2 + a * 3 + 1, none⟩ = some (.int .i64 y) /\ W.cell? ⟨g2, o2 + a * 3 + 2, none⟩ = some (.int .i64 z)) (by kernel_rfl) ?_
      generalize wr.drew = V0 at *
      refine tkx (i := 0) (v := ?_) hS ?_ ?_
      rotate_left
      ·rintro w' ⟨s0', s1', s2', s3', s4', s5'⟩
       go_simp
       try with_reducible rfl
      try simp only [Act.put, zq1, zq2, zq3, zq4, zq5, zq6]
      refine tkx (i := 1) (v := ?_) hS ?_ ?_
      rotate_left
      ·rintro w' ⟨s0', s1', s2', s3', s4', s5'⟩
       go_simp
       try with_reducible rfl
      try simp only [Act.put, zq1, zq2, zq3, zq4, zq5, zq6]
      refine tkx (i := 2) (v := ?_) hS ?_ ?_
      rotate_left
      ·rintro w' ⟨s0', s1', s2', s3', s4', s5'⟩
       go_simp
       try with_reducible rfl
      try simp only [Act.put, zq1, zq2, zq3, zq4, zq5, zq6]
      refine tkx (i := 3) (v := ?_) hS ?_ ?_
      rotate_left
      ·rintro w' ⟨s0', s1', s2', s3', s4', s5'⟩
       go_simp
       try with_reducible rfl
      try simp only [Act.put, zq1, zq2, zq3, zq4, zq5, zq6]
      refine tkx (i := 4) (v := ?_) hS ?_ ?_
      rotate_left
      ·rintro w' ⟨s0', s1', s2', s3', s4', s5'⟩
       go_simp
       try with_reducible rfl
      try simp only [Act.put, zq1, zq2, zq3, zq4, zq5, zq6]
      refine tkx (i := 5) (v := ?_) hS ?_ ?_
      rotate_left
      ·rintro w' ⟨s0', s1', s2', s3', s4', s5'⟩
       go_simp
       try with_reducible rfl
      try simp only [Act.put, zq1, zq2, zq3, zq4, zq5, zq6]
      refine tkx (i := 6) (v := ?_) hS ?_ ?_
      rotate_left
      ·rintro w' ⟨s0', s1', s2', s3', s4', s5'⟩
       go_simp
       try with_reducible rfl
      try simp only [Act.put, zq1, zq2, zq3, zq4, zq5, zq6]
      refine tkx (i := 7) (v := ?_) hS ?_ ?_
      rotate_left
      ·rintro w' ⟨s0', s1', s2', s3', s4', s5'⟩
       go_simp
       try with_reducible rfl
      try simp only [Act.put, zq1, zq2, zq3, zq4, zq5, zq6]
      refine tkx (i := 8) (v := ?_) hS ?_ ?_
      rotate_left
      ·rintro w' ⟨s0', s1', s2', s3', s4', s5'⟩
       go_simp
       try with_reducible rfl
      try simp only [Act.put, zq1, zq2, zq3, zq4, zq5, zq6]
      refine tkx (i := 9) (v := ?_) hS ?_ ?_
      rotate_left
      ·rintro w' ⟨s0', s1', s2', s3', s4', s5'⟩
       go_simp
       try with_reducible rfl
      try simp only [Act.put, zq1, zq2, zq3, zq4, zq5, zq6]
      refine tkx (i := 10) (v := ?_) hS ?_ ?_
      rotate_left
      ·rintro w' ⟨s0', s1', s2', s3', s4', s5'⟩
       go_simp
       try with_reducible rfl
      try simp only [Act.put, zq1, zq2, zq3, zq4, zq5, zq6]
      refine tkx (i := 11) (v := ?_) hS ?_ ?_
      rotate_left
      ·rintro w' ⟨s0', s1', s2', s3', s4', s5'⟩
       go_simp
       try with_reducible rfl
      try simp only [Act.put, zq1, zq2, zq3, zq4, zq5, zq6]
      refine anyX_g (i := 12) (by kernel_rfl) (by decide) rfl (by rfl) ?_
      intro K hK
      try simp only [zq1, zq2, zq3]
      go_simp
      obtain ⟨V1, eV⟩ : ∃ W', V0.alloc (.cells #[.int .i64 x, .int .i64 y, .int .i64 z] 53) = W' := ⟨_, rfl⟩
      have hbn : Below V0.heap.size V0 V1 := by rw [<- eV]; exact (Below.refl _ _).alloc (Nat.le_refl _) _
      have xb : Blk V1 V0.heap.size 53 #[.int .i64 x, .int .i64 y, .int .i64 z] := by rw [<- eV]; exact Blk.new _ _ _
      rw [eV]
      clear eV
      replace hO := ownsRow_bel hO hbn
      replace hb := hb.trans (hbn.mono hb.size)
      have hBV1 : W5.heap.size <= V1.heap.size := Nat.le_trans hBV hbn.size
      clear hbn
      replace hS := HKS.out _ hb
      obtain ⟨p1, hp1⟩ : ∃ p, p = V0.heap.size := ⟨_, rfl⟩
      rw [<- hp1] at xb ⊢
      clear hp1
      refine hK _ _ hS ?_
      clear hK
      try simp only [Act.put, zq1, zq2, zq3, zq4, zq5, zq6]
      refine anyX_g (i := 13) (by kernel_rfl) (by decide) rfl (by rfl) ?_
      intro K hK
      try simp only [zq1, zq2, zq3]
      refine wp_pushK rfl (.tmp 23) (.tmp 35) 42 53 rfl 3 24 _ Try.underlying42 info_vec3 rfl (by omega) (by omega) W5.heap.size (.slice VA j vc) j _ (by rfl) hO p1 (by rfl) #[.int .i64 x, .int .i64 y, .int .i64 z] rfl xb (by simp [Value.oneCell']) hj9 hBV1 ?_
      intro g9 cap9 V2 q1 q2 q3
      have hgr := hO.lt
      have hS : (fun W : World => W.cell? ⟨b2, 1, none⟩ = some (.slice (some ⟨g1, o1, none⟩) n oc) /\ W.cell? ⟨g1, o1 + i, none⟩ = some (.slice (some ⟨g2, o2, none⟩) qn c2) /\ W.cell? ⟨g3, o3 + j, none⟩ = some (.int .i64 (a : Int)) /\ W.cell? ⟨g2, o2 + a * 3, none⟩ = some (.int .i64 x) /\ W.cell? ⟨g2, o2 + a * 3 + 1, none⟩ = some (.int .i64 y) /\ W.cell? ⟨g2, o2 + a * 3 + 2, none⟩ = some (.int .i64 z)) V2 := HKG.out _ _ hb q2 hBV1 (fun z hz => (hgr z hz).1)
      have hbw := below_grown (HB.out.trans (hb.mono HB.out.size)) q2 hBV1 (fun z hz => (hgr z hz).1)
      clear hO hb xb hgr q2 q3 hBV1 hBV
      refine hK _ _ hS ?_
      clear hK
      try simp only [Act.put, zq1, zq2, zq3, zq4, zq5, zq6]
      refine anyX_last (by kernel_rfl) (by kernel_rfl) rfl rfl ?_
      try simp only [zq1, zq2, zq3]
      go_simp
      try apply_assumption
      clear hS
      have HO2 : Hid (V2.ownsRow W5.heap.size 53 3 (sl g9 (j + 1) cap9) (j + 1) (((ls.take (j + 1)).map fun a => (E.getD i []).getD a zV).flatMap encV)) := Lib.hid (by
       rw [HFS.out, List.flatMap_append]
       exact q1)
      obtain ⟨hc9, hc10⟩ := row_cap q1
      have HB2' := Lib.hid hbw
      clear q1 hbw
      go_wp2_with fail
      exact ⟨⟨j + 1, _, cap9, rfl, hc10, by go_num, by omega, HO2, HB2'⟩, by simp [intOf]; omega⟩
     ·obtain rfl : l = j := by omega
      have hbw : Below w.heap.size w wr := HBWW.out.trans (HB.out.mono HBWW.out.size)
      have hwB : B <= wr.heap.size := Nat.le_trans HWB.out HB.out.size
      have hfr5 : Fr (fun q => q = b5) W4 wr := HFR.out.then_ (Fr.of_below (X := fun _ => False) HB.out) (fun _ _ e => e.elim)
      have hx5 := Blk.below HXB.out HB.out HXB.out.lt
      have hx2 := hfr5.blk HX2.out (by omega)
      have hO9 : wr.ownsRow B 53 3 (.slice VA l vc) l ((ls.map fun a => (E.getD i []).getD a zV).flatMap encV) := by
       have h := HO.out
       rw [List.take_of_length_le (by rw [HLSL.out]; exact Nat.le_refl _)] at h
       exact ownsRow_any h HWB.out
      have HN9 := Lib.hid (HNO.out.below HB.out); have HO9 := Lib.hid (HOO.out.below HB.out); have HU9 := Lib.hid hO9; have HR9 := Lib.hid (HRN.out.below hbw)
      have HAP : Hid (Apart (.slice YA i yc) (.slice VA l vc)) := Lib.hid (by
       cases hz : (Value.slice YA i yc).ownBlock with
       | none => exact .inl hz
       | some z =>
         refine .inr (.inr (fun e => ?_))
         rw [hz] at e
         have h1 := (HOO.out.lt z hz).2
         have h2 := (HO.out.lt z e.symm).1
         omega)
      have HBW := Lib.hid hwB; have HX5 := Lib.hid hx5; have HF4 := Lib.hid hfr5
      have hgn := World.block_lt_of_cell? w _ HDN.out
      have HKS : Hid (∀ W, Below B wr W -> (fun W : World => W.cell? ⟨b5, 0, none⟩ = some (.slice XA i xc) /\ W.cell? ⟨b5, 1, none⟩ = some (.slice YA i yc) /\ W.cell? ⟨b2, 0, none⟩ = some (.slice (some ⟨gn, on, none⟩) n nc) /\ W.cell? ⟨gn, on + i, none⟩ = some (.slice A1 m1 c1)) W) := Lib.hid (fun W hW => by
       have y0 := (Blk.below hx5 hW HB5.out).cell 0
       have y1 := (Blk.below hx5 hW HB5.out).cell 1
       have y2 := (Blk.below hx2 hW (by have := HB5.out; omega)).cell 0
       refine ⟨by simpa using y0, by simpa using y1, by simpa using y2, ?_⟩
       rw [hW.cell (p := ⟨gn, on + i, none⟩) (Nat.lt_of_lt_of_le hgn h0B)]
       exact bel_m hbw HDN.out)
      have hm9 : m1 <= 1000 := by rw [HM1.out, HT.out.len i (by rw [HL.out]; exact hlt)]; exact hk
      have hi9 : i <= 1000000 := by omega
      clear hbw hwB hfr5 hx5 hx2 hO9 HO HB HNO HOO HXB c20 hgn
      go_wp2_with fail
      refine region_y 17 (fun W : World => W.cell? ⟨b5, 0, none⟩ = some (.slice XA i xc) /\ W.cell? ⟨b5, 1, none⟩ = some (.slice YA i yc) /\ W.cell? ⟨b2, 0, none⟩ = some (.slice (some ⟨gn, on, none⟩) n nc) /\ W.cell? ⟨gn, on + i, none⟩ = some (.slice A1 m1 c1)) (by kernel_rfl) ?_
      have HB0 : Hid (Below B wr wr.drew) := Lib.hid (Below.refl _ _).drew
      have hS := HKS.out _ HB0.out
      have HBV0 : Hid (B <= wr.drew.heap.size) := HBW
      have HN0 : Hid (OwnLL wr.drew _ _ _ _ _ _ _) := HN9
      have HO0 : Hid (OwnLL wr.drew _ _ _ _ _ _ _) := HO9
      have HU0 : Hid (wr.drew.ownsRow _ _ _ _ _ _) := HU9
      have HRW : Hid (∀ W, Below wr.drew.heap.size wr.drew W -> ReadsI W (.slice A1 m1 c1) m1 (intsN (T.getD i []))) := Lib.hid (fun W hW => ReadsI.below (w := wr.drew) HR9.out hW)
      have hc : Below wr.drew.heap.size wr.drew wr.drew := Below.refl _ _
      generalize wr.drew = V0 at *
      refine tky (i := 0) (v := ?_) hS ?_ ?_
      rotate_left
      ·rintro w' ⟨s0', s1', s2', s3'⟩
       go_simp
       try with_reducible rfl
      try simp only [Act.put, zq1, zq2, zq3, zq4, zq5, zq6]
      refine tky (i := 1) (v := ?_) hS ?_ ?_
      rotate_left
      ·rintro w' ⟨s0', s1', s2', s3'⟩
       go_simp
       try with_reducible rfl
      try simp only [Act.put, zq1, zq2, zq3, zq4, zq5, zq6]
      refine tky (i := 3) (v := ?_) hS ?_ ?_
      rotate_left
      ·rintro w' ⟨s0', s1', s2', s3'⟩
       go_simp
       try with_reducible rfl
      try simp only [Act.put, zq1, zq2, zq3, zq4, zq5, zq6]
      refine tky (i := 4) (v := ?_) hS ?_ ?_
      rotate_left
      ·rintro w' ⟨s0', s1', s2', s3'⟩
       go_simp
       try with_reducible rfl
      try simp only [Act.put, zq1, zq2, zq3, zq4, zq5, zq6]
      refine tky (i := 5) (v := ?_) hS ?_ ?_
      rotate_left
      ·rintro w' ⟨s0', s1', s2', s3'⟩
       go_simp
       try with_reducible rfl
      try simp only [Act.put, zq1, zq2, zq3, zq4, zq5, zq6]
      refine tky (i := 6) (v := ?_) hS ?_ ?_
      rotate_left
      ·rintro w' ⟨s0', s1', s2', s3'⟩
       go_simp
       try with_reducible rfl
      try simp only [Act.put, zq1, zq2, zq3, zq4, zq5, zq6]
      refine tky (i := 7) (v := ?_) hS ?_ ?_
      rotate_left
      ·rintro w' ⟨s0', s1', s2', s3'⟩
       go_simp
       try with_reducible rfl
      try simp only [Act.put, zq1, zq2, zq3, zq4, zq5, zq6]
      refine tky (i := 11) (v := ?_) hS ?_ ?_
      rotate_left
      ·rintro w' ⟨s0', s1', s2', s3'⟩
       go_simp
       try with_reducible rfl
      try simp only [Act.put, zq1, zq2, zq3, zq4, zq5, zq6]
      refine tky (i := 12) (v := ?_) hS ?_ ?_
      rotate_left
      ·rintro w' ⟨s0', s1', s2', s3'⟩
       go_simp
       try with_reducible rfl
      try simp only [Act.put, zq1, zq2, zq3, zq4, zq5, zq6]
      refine tkyg [15, 14] (i := 13) (v := ?_) hS ?_ ?_
      rotate_left
      ·rintro w' ⟨s0', s1', s2', s3'⟩
       go_simp
       try with_reducible rfl
      try simp only [Act.put, zq1, zq2, zq3, zq4, zq5, zq6]
      refine anyY_2 (i := 2) (j := 14) (by kernel_rfl) rfl rfl rfl rfl ?_ ?_
      ·intro K hK
       try simp only [zq1, zq2, zq3]
       go_simp
       obtain ⟨V1, eV⟩ : ∃ W', V0.alloc (.cells #[] 3) = W' := ⟨_, rfl⟩
       have hbn : Below V0.heap.size V0 V1 := by rw [<- eV]; exact (Below.refl _ _).alloc (Nat.le_refl _) _
       have xe : Own V1 V0.heap.size (sl V0.heap.size 0 0) 0 [] := by rw [<- eV]; exact Own.none_ _
       rw [eV]
       clear eV
       have hcs : V0.heap.size <= V0.heap.size := hc.size
       replace hc := hc.trans (hbn.mono hc.size)
       obtain ⟨p0, hp⟩ : ∃ p, p = V0.heap.size := ⟨_, rfl⟩
       have hpz : p0 <= V1.heap.size := by rw [hp]; exact hbn.size
       have hp0 : V0.heap.size <= p0 := Nat.le_trans hcs (Nat.le_of_eq hp.symm)
       rw [<- hp] at xe ⊢
       clear hp hbn hcs
       have hS := HKS.out _ (HB0.out.trans (hc.mono HBV0.out))
       refine hK _ _ hS ?_
       clear hK
       try simp only [Act.put, zq1, zq2, zq3, zq4, zq5, zq6]
       refine anyY_2 (i := 8) (j := 14) (by kernel_rfl) rfl rfl rfl rfl ?_ ?_
       ·intro K hK
        try simp only [zq1, zq2, zq3]
        refine wp_concatI rfl (.tmp 39) (.tmp 44) rfl p0 (sl p0 0 0) 0 [] (by rfl) xe (.slice A1 m1 c1) m1 (intsN (T.getD i [])) (by rfl) (HRW.out _ hc) (by omega) (own_base xe) ?_
        intro u8 V2 xr hbn q2 q3
        obtain ⟨UA, uc, e8, -, -, -⟩ := xr.readsI.form
        subst e8
        rw [Nat.zero_add, List.nil_append] at xr
        simp only [Nat.zero_add]
        replace hc := hc.trans (hbn.mono hp0)
        clear xe hbn q2 q3 hpz
        have hS := HKS.out _ (HB0.out.trans (hc.mono HBV0.out))
        refine hK _ _ hS ?_
        clear hK
        try simp only [Act.put, zq1, zq2, zq3, zq4, zq5, zq6]
        refine anyY_2 (i := 9) (j := 14) (by kernel_rfl) rfl rfl rfl rfl ?_ ?_
        ·intro K hK
         try simp only [zq1, zq2, zq3]
         go_simp
         obtain ⟨V3, eV⟩ : ∃ W', V2.alloc (.cells #[.slice UA m1 uc] 22) = W' := ⟨_, rfl⟩
         have hbn : Below V2.heap.size V2 V3 := by rw [<- eV]; exact (Below.refl _ _).alloc (Nat.le_refl _) _
         have xb : Blk V3 V2.heap.size 22 #[.slice UA m1 uc] := by rw [<- eV]; exact Blk.new _ _ _
         rw [eV]
         clear eV
         replace hc := hc.trans (hbn.mono hc.size)
         replace xr := xr.below_top hbn
         obtain ⟨p1, hp⟩ : ∃ p, p = V2.heap.size := ⟨_, rfl⟩
         rw [<- hp] at xb ⊢
         clear hp hbn
         have hS := HKS.out _ (HB0.out.trans (hc.mono HBV0.out))
         refine hK _ _ hS ?_
         clear hK
         try simp only [Act.put, zq1, zq2, zq3, zq4, zq5, zq6]
         refine anyY_2 (i := 10) (j := 14) (by kernel_rfl) rfl rfl rfl rfl ?_ ?_
         ·intro K hK
          try simp only [zq1, zq2, zq3]
          have hN := HN0.out.below hc
          have hO := HO0.out.below hc
          have hu := ownsRow_bel HU0.out hc
          have hb := HB0.out.trans (hc.mono HBV0.out)
          have hBV : B <= V3.heap.size := Nat.le_trans HBV0.out hc.size
          have hap : Apart (.slice XA i xc) (.slice UA m1 uc) := apart_lt HN0.out xr hp0
          replace xr : Own V3 B (.slice UA m1 uc) m1 _ := xr.more (Nat.le_trans HBV0.out hp0)
          obtain ⟨vals, hvals, hpush⟩ := hN.pushV
          have hvals1 := hvals
          unfold OwnE at hvals1
          rw [flat1] at hvals1
          refine wp_pushK rfl (.tmp 38) (.tmp 46) 24 22 rfl 1 24 _ Try.underlying24 info_row rfl (by omega) (by omega) B (.slice XA i xc) i vals (by rfl) hvals1 p1 (by rfl) #[.slice UA m1 uc] rfl xb (by simp [Value.oneCell']) hi9 hBV ?_
          intro g9 cap9 V4 q1 q2 q3
          have hP : PushedE (fun u : Value => [u]) 22 1 B V3 V4 (.slice XA i xc) g9 cap9 i vals (.slice UA m1 uc) := pushedE_of hvals1 q1 q2 q3
          replace hN := hpush _ _ _ _ _ _ hP xr hap
          replace hO := hO.keepG q2 hvals1 (by decide) (by decide)
          replace hu := rowTurn hu hvals1 q2 (by decide)
          replace hb := below_grown hb q2 hBV (fun z hz => (hvals1.lt z hz).1)
          replace hBV := Nat.le_trans hBV q2.size
          clear hvals hvals1 hpush hP q1 q2 q3 hap xr xb hc hp0
          have hS := HKS.out _ hb
          refine hK _ _ hS ?_
          clear hK
          try simp only [Act.put, zq1, zq2, zq3, zq4, zq5, zq6]
          refine tky (i := 16) (v := ?_) hS ?_ ?_
          rotate_left
          ·rintro w' ⟨s0', s1', s2', s3'⟩
           go_simp
           try with_reducible rfl
          try simp only [Act.put, zq1, zq2, zq3, zq4, zq5, zq6]
          refine anyY_g (i := 14) (by kernel_rfl) rfl rfl ?_
          intro K hK
          try simp only [zq1, zq2, zq3]
          go_simp
          obtain ⟨V5, eV⟩ : ∃ W', V4.alloc (.cells #[.slice VA l vc] 42) = W' := ⟨_, rfl⟩
          have hbn : Below V4.heap.size V4 V5 := by rw [<- eV]; exact (Below.refl _ _).alloc (Nat.le_refl _) _
          have xk : Blk V5 V4.heap.size 42 #[.slice VA l vc] := by rw [<- eV]; exact Blk.new _ _ _
          rw [eV]
          clear eV
          replace hN := hN.below hbn
          replace hO := hO.below hbn
          replace hu := ownsRow_bel hu hbn
          replace hb := hb.trans (hbn.mono hBV)
          replace hBV := Nat.le_trans hBV hbn.size
          obtain ⟨p2, hp⟩ : ∃ p, p = V4.heap.size := ⟨_, rfl⟩
          rw [<- hp] at xk ⊢
          clear hp hbn
          have hS := HKS.out _ hb
          refine hK _ _ hS ?_
          clear hK
          try simp only [Act.put, zq1, zq2, zq3, zq4, zq5, zq6]
          refine anyY_g (i := 15) (by kernel_rfl) rfl rfl ?_
          intro K hK
          try simp only [zq1, zq2, zq3]
          obtain ⟨vals, hvals, hpush⟩ := hO.pushV
          have hvals1 := hvals
          unfold OwnE at hvals1
          rw [flat1] at hvals1
          refine wp_pushK rfl (.tmp 49) (.tmp 51) 28 42 rfl 1 24 _ Try.underlying28 info_vrow rfl (by omega) (by omega) B (.slice YA i yc) i vals (by rfl) hvals1 p2 (by rfl) #[.slice VA l vc] rfl xk (by simp [Value.oneCell']) hi9 hBV ?_
          intro g7 cap7 V6 q1 q2 q3
          have hP : PushedE (fun u : Value => [u]) 42 1 B V5 V6 (.slice YA i yc) g7 cap7 i vals (.slice VA l vc) := pushedE_of hvals1 q1 q2 q3
          replace hO := hpush _ _ _ _ _ _ hP hu HAP.out
          replace hN := hN.keepG q2 hvals1 (by decide) (by decide)
          replace hb := below_grown hb q2 hBV (fun z hz => (hvals1.lt z hz).1)
          replace hBV := Nat.le_trans hBV q2.size
          clear hvals hvals1 hpush hP q1 q2 q3 hu xk
          have hS := HKS.out _ hb
          refine hK _ _ hS ?_
          clear hK
          try simp only [Act.put, zq1, zq2, zq3, zq4, zq5, zq6]
          have hx5 := Blk.below HX5.out hb HB5.out
          have k0 := Blk.cell hx5 0; have k1 := Blk.cell hx5 1; have f0 := Blk.frozen hx5 0; have f1 := Blk.frozen hx5 1
          simp only [List.getElem?_toArray, List.getElem?_cons_zero, List.getElem?_cons_succ] at k0 k1
          have HE := Lib.hid (pickEnd hx5 HM1.out hN hO hb HBW.out HB5.out HF4.out HW4.out)
          clear hx5 hN hO hb hBV hS
          refine anyY_h (i := 17) (by kernel_rfl) (by kernel_rfl) rfl rfl ?_
          intro K hK
          try simp only [zq1, zq2, zq3]
          go_simp
          refine hK _ _ ?_
          clear hK
          try simp only [Act.put, zq1, zq2, zq3, zq4, zq5, zq6]
          refine anyY_h (i := 18) (by kernel_rfl) (by kernel_rfl) rfl rfl ?_
          intro K hK
          try simp only [zq1, zq2, zq3]
          go_simp
          refine hK _ _ ?_
          clear hK
          try simp only [Act.put, zq1, zq2, zq3, zq4, zq5, zq6]
          refine anyY_last (i := 19) (by kernel_rfl) (by kernel_rfl) (by kernel_rfl) rfl rfl ?_
          try simp only [zq1, zq2, zq3]
          go_simp
          try apply_assumption
          clear k0 k1 f0 f1
          go_wp2_with fail
          exact ⟨⟨i + 1, by go_num, by omega, HE⟩, by simp [intOf]; omega⟩
         ·intro K hK
          try simp only [zq1, zq2, zq3]
          go_simp
          obtain ⟨V4, eV⟩ : ∃ W', V3.alloc (.cells #[.slice VA l vc] 42) = W' := ⟨_, rfl⟩
          have hbn : Below V3.heap.size V3 V4 := by rw [<- eV]; exact (Below.refl _ _).alloc (Nat.le_refl _) _
          have xk : Blk V4 V3.heap.size 42 #[.slice VA l vc] := by rw [<- eV]; exact Blk.new _ _ _
          rw [eV]
          clear eV
          replace hc := hc.trans (hbn.mono hc.size)
          replace xr := xr.below_top hbn
          replace xb := Blk.below xb hbn xb.lt
          obtain ⟨p2, hp⟩ : ∃ p, p = V3.heap.size := ⟨_, rfl⟩
          rw [<- hp] at xk ⊢
          clear hp hbn
          have hS := HKS.out _ (HB0.out.trans (hc.mono HBV0.out))
          refine hK _ _ hS ?_
          clear hK
          try simp only [Act.put, zq1, zq2, zq3, zq4, zq5, zq6]
          refine anyY_g (i := 10) (by kernel_rfl) rfl rfl ?_
          intro K hK
          try simp only [zq1, zq2, zq3]
          have hN := HN0.out.below hc
          have hO := HO0.out.below hc
          have hu := ownsRow_bel HU0.out hc
          have hb := HB0.out.trans (hc.mono HBV0.out)
          have hBV : B <= V4.heap.size := Nat.le_trans HBV0.out hc.size
          have hap : Apart (.slice XA i xc) (.slice UA m1 uc) := apart_lt HN0.out xr hp0
          replace xr : Own V4 B (.slice UA m1 uc) m1 _ := xr.more (Nat.le_trans HBV0.out hp0)
          obtain ⟨vals, hvals, hpush⟩ := hN.pushV
          have hvals1 := hvals
          unfold OwnE at hvals1
          rw [flat1] at hvals1
          refine wp_pushK rfl (.tmp 38) (.tmp 46) 24 22 rfl 1 24 _ Try.underlying24 info_row rfl (by omega) (by omega) B (.slice XA i xc) i vals (by rfl) hvals1 p1 (by rfl) #[.slice UA m1 uc] rfl xb (by simp [Value.oneCell']) hi9 hBV ?_
          intro g9 cap9 V5 q1 q2 q3
          have hP : PushedE (fun u : Value => [u]) 22 1 B V4 V5 (.slice XA i xc) g9 cap9 i vals (.slice UA m1 uc) := pushedE_of hvals1 q1 q2 q3
          replace xk := blkTurn xk hvals1 q2 (by decide)
          replace hN := hpush _ _ _ _ _ _ hP xr hap
          replace hO := hO.keepG q2 hvals1 (by decide) (by decide)
          replace hu := rowTurn hu hvals1 q2 (by decide)
          replace hb := below_grown hb q2 hBV (fun z hz => (hvals1.lt z hz).1)
          replace hBV := Nat.le_trans hBV q2.size
          clear hvals hvals1 hpush hP q1 q2 q3 hap xr xb hc hp0
          have hS := HKS.out _ hb
          refine hK _ _ hS ?_
          clear hK
          try simp only [Act.put, zq1, zq2, zq3, zq4, zq5, zq6]
          refine tky (i := 16) (v := ?_) hS ?_ ?_
          rotate_left
          ·rintro w' ⟨s0', s1', s2', s3'⟩
           go_simp
           try with_reducible rfl
          try simp only [Act.put, zq1, zq2, zq3, zq4, zq5, zq6]
          refine anyY_g (i := 15) (by kernel_rfl) rfl rfl ?_
          intro K hK
          try simp only [zq1, zq2, zq3]
          obtain ⟨vals, hvals, hpush⟩ := hO.pushV
          have hvals1 := hvals
          unfold OwnE at hvals1
          rw [flat1] at hvals1
          refine wp_pushK rfl (.tmp 49) (.tmp 51) 28 42 rfl 1 24 _ Try.underlying28 info_vrow rfl (by omega) (by omega) B (.slice YA i yc) i vals (by rfl) hvals1 p2 (by rfl) #[.slice VA l vc] rfl xk (by simp [Value.oneCell']) hi9 hBV ?_
          intro g7 cap7 V6 q1 q2 q3
          have hP : PushedE (fun u : Value => [u]) 42 1 B V5 V6 (.slice YA i yc) g7 cap7 i vals (.slice VA l vc) := pushedE_of hvals1 q1 q2 q3
          replace hO := hpush _ _ _ _ _ _ hP hu HAP.out
          replace hN := hN.keepG q2 hvals1 (by decide) (by decide)
          replace hb := below_grown hb q2 hBV (fun z hz => (hvals1.lt z hz).1)
          replace hBV := Nat.le_trans hBV q2.size
          clear hvals hvals1 hpush hP q1 q2 q3 hu xk
          have hS := HKS.out _ hb
          refine hK _ _ hS ?_
          clear hK
          try simp only [Act.put, zq1, zq2, zq3, zq4, zq5, zq6]
          have hx5 := Blk.below HX5.out hb HB5.out
          have k0 := Blk.cell hx5 0; have k1 := Blk.cell hx5 1; have f0 := Blk.frozen hx5 0; have f1 := Blk.frozen hx5 1
          simp only [List.getElem?_toArray, List.getElem?_cons_zero, List.getElem?_cons_succ] at k0 k1
          have HE := Lib.hid (pickEnd hx5 HM1.out hN hO hb HBW.out HB5.out HF4.out HW4.out)
          clear hx5 hN hO hb hBV hS
          refine anyY_h (i := 17) (by kernel_rfl) (by kernel_rfl) rfl rfl ?_
          intro K hK
          try simp only [zq1, zq2, zq3]
          go_simp
          refine hK _ _ ?_
          clear hK
          try simp only [Act.put, zq1, zq2, zq3, zq4, zq5, zq6]
          refine anyY_h (i := 18) (by kernel_rfl) (by kernel_rfl) rfl rfl ?_
          intro K hK
          try simp only [zq1, zq2, zq3]
          go_simp
          refine hK _ _ ?_
          clear hK
          try simp only [Act.put, zq1, zq2, zq3, zq4, zq5, zq6]
          refine anyY_last (i := 19) (by kernel_rfl) (by kernel_rfl) (by kernel_rfl) rfl rfl ?_
          try simp only [zq1, zq2, zq3]
          go_simp
          try apply_assumption
          clear k0 k1 f0 f1
          go_wp2_with fail
          exact ⟨⟨i + 1, by go_num, by omega, HE⟩, by simp [intOf]; omega⟩
        ·intro K hK
         try simp only [zq1, zq2, zq3]
         go_simp
         obtain ⟨V3, eV⟩ : ∃ W', V2.alloc (.cells #[.slice VA l vc] 42) = W' := ⟨_, rfl⟩
         have hbn : Below V2.heap.size V2 V3 := by rw [<- eV]; exact (Below.refl _ _).alloc (Nat.le_refl _) _
         have xk : Blk V3 V2.heap.size 42 #[.slice VA l vc] := by rw [<- eV]; exact Blk.new _ _ _
         rw [eV]
         clear eV
         replace hc := hc.trans (hbn.mono hc.size)
         replace xr := xr.below_top hbn
         obtain ⟨p2, hp⟩ : ∃ p, p = V2.heap.size := ⟨_, rfl⟩
         rw [<- hp] at xk ⊢
         clear hp hbn
         have hS := HKS.out _ (HB0.out.trans (hc.mono HBV0.out))
         refine hK _ _ hS ?_
         clear hK
         try simp only [Act.put, zq1, zq2, zq3, zq4, zq5, zq6]
         refine anyY_g (i := 9) (by kernel_rfl) rfl rfl ?_
         intro K hK
         try simp only [zq1, zq2, zq3]
         go_simp
         obtain ⟨V4, eV⟩ : ∃ W', V3.alloc (.cells #[.slice UA m1 uc] 22) = W' := ⟨_, rfl⟩
         have hbn : Below V3.heap.size V3 V4 := by rw [<- eV]; exact (Below.refl _ _).alloc (Nat.le_refl _) _
         have xb : Blk V4 V3.heap.size 22 #[.slice UA m1 uc] := by rw [<- eV]; exact Blk.new _ _ _
         rw [eV]
         clear eV
         replace hc := hc.trans (hbn.mono hc.size)
         replace xr := xr.below_top hbn
         replace xk := Blk.below xk hbn xk.lt
         obtain ⟨p1, hp⟩ : ∃ p, p = V3.heap.size := ⟨_, rfl⟩
         rw [<- hp] at xb ⊢
         clear hp hbn
         have hS := HKS.out _ (HB0.out.trans (hc.mono HBV0.out))
         refine hK _ _ hS ?_
         clear hK
         try simp only [Act.put, zq1, zq2, zq3, zq4, zq5, zq6]
         refine anyY_g (i := 10) (by kernel_rfl) rfl rfl ?_
         intro K hK
         try simp only [zq1, zq2, zq3]
         have hN := HN0.out.below hc
         have hO := HO0.out.below hc
         have hu := ownsRow_bel HU0.out hc
         have hb := HB0.out.trans (hc.mono HBV0.out)
         have hBV : B <= V4.heap.size := Nat.le_trans HBV0.out hc.size
         have hap : Apart (.slice XA i xc) (.slice UA m1 uc) := apart_lt HN0.out xr hp0
         replace xr : Own V4 B (.slice UA m1 uc) m1 _ := xr.more (Nat.le_trans HBV0.out hp0)
         obtain ⟨vals, hvals, hpush⟩ := hN.pushV
         have hvals1 := hvals
         unfold OwnE at hvals1
         rw [flat1] at hvals1
         refine wp_pushK rfl (.tmp 38) (.tmp 46) 24 22 rfl 1 24 _ Try.underlying24 info_row rfl (by omega) (by omega) B (.slice XA i xc) i vals (by rfl) hvals1 p1 (by rfl) #[.slice UA m1 uc] rfl xb (by simp [Value.oneCell']) hi9 hBV ?_
         intro g9 cap9 V5 q1 q2 q3
         have hP : PushedE (fun u : Value => [u]) 22 1 B V4 V5 (.slice XA i xc) g9 cap9 i vals (.slice UA m1 uc) := pushedE_of hvals1 q1 q2 q3
         replace xk := blkTurn xk hvals1 q2 (by decide)
         replace hN := hpush _ _ _ _ _ _ hP xr hap
         replace hO := hO.keepG q2 hvals1 (by decide) (by decide)
         replace hu := rowTurn hu hvals1 q2 (by decide)
         replace hb := below_grown hb q2 hBV (fun z hz => (hvals1.lt z hz).1)
         replace hBV := Nat.le_trans hBV q2.size
         clear hvals hvals1 hpush hP q1 q2 q3 hap xr xb hc hp0
         have hS := HKS.out _ hb
         refine hK _ _ hS ?_
         clear hK
         try simp only [Act.put, zq1, zq2, zq3, zq4, zq5, zq6]
         refine tky (i := 16) (v := ?_) hS ?_ ?_
         rotate_left
         ·rintro w' ⟨s0', s1', s2', s3'⟩
          go_simp
          try with_reducible rfl
         try simp only [Act.put, zq1, zq2, zq3, zq4, zq5, zq6]
         refine anyY_g (i := 15) (by kernel_rfl) rfl rfl ?_
         intro K hK
         try simp only [zq1, zq2, zq3]
         obtain ⟨vals, hvals, hpush⟩ := hO.pushV
         have hvals1 := hvals
         unfold OwnE at hvals1
         rw [flat1] at hvals1
         refine wp_pushK rfl (.tmp 49) (.tmp 51) 28 42 rfl 1 24 _ Try.underlying28 info_vrow rfl (by omega) (by omega) B (.slice YA i yc) i vals (by rfl) hvals1 p2 (by rfl) #[.slice VA l vc] rfl xk (by simp [Value.oneCell']) hi9 hBV ?_
         intro g7 cap7 V6 q1 q2 q3
         have hP : PushedE (fun u : Value => [u]) 42 1 B V5 V6 (.slice YA i yc) g7 cap7 i vals (.slice VA l vc) := pushedE_of hvals1 q1 q2 q3
         replace hO := hpush _ _ _ _ _ _ hP hu HAP.out
         replace hN := hN.keepG q2 hvals1 (by decide) (by decide)
         replace hb := below_grown hb q2 hBV (fun z hz => (hvals1.lt z hz).1)
         replace hBV := Nat.le_trans hBV q2.size
         clear hvals hvals1 hpush hP q1 q2 q3 hu xk
         have hS := HKS.out _ hb
         refine hK _ _ hS ?_
         clear hK
         try simp only [Act.put, zq1, zq2, zq3, zq4, zq5, zq6]
         have hx5 := Blk.below HX5.out hb HB5.out
         have k0 := Blk.cell hx5 0; have k1 := Blk.cell hx5 1; have f0 := Blk.frozen hx5 0; have f1 := Blk.frozen hx5 1
         simp only [List.getElem?_toArray, List.getElem?_cons_zero, List.getElem?_cons_succ] at k0 k1
         have HE := Lib.hid (pickEnd hx5 HM1.out hN hO hb HBW.out HB5.out HF4.out HW4.out)
         clear hx5 hN hO hb hBV hS
         refine anyY_h (i := 17) (by kernel_rfl) (by kernel_rfl) rfl rfl ?_
         intro K hK
         try simp only [zq1, zq2, zq3]
         go_simp
         refine hK _ _ ?_
         clear hK
         try simp only [Act.put, zq1, zq2, zq3, zq4, zq5, zq6]
         refine anyY_h (i := 18) (by kernel_rfl) (by kernel_rfl) rfl rfl ?_
         intro K hK
         try simp only [zq1, zq2, zq3]
         go_simp
         refine hK _ _ ?_
         clear hK
         try simp only [Act.put, zq1, zq2, zq3, zq4, zq5, zq6]
         refine anyY_last (i := 19) (by kernel_rfl) (by kernel_rfl) (by kernel_rfl) rfl rfl ?_
         try simp only [zq1, zq2, zq3]
         go_simp
         try apply_assumption
         clear k0 k1 f0 f1
         go_wp2_with fail
         exact ⟨⟨i + 1, by go_num, by omega, HE⟩, by simp [intOf]; omega⟩
       ·intro K hK
        try simp only [zq1, zq2, zq3]
        go_simp
        obtain ⟨V2, eV⟩ : ∃ W', V1.alloc (.cells #[.slice VA l vc] 42) = W' := ⟨_, rfl⟩
        have hbn : Below V1.heap.size V1 V2 := by rw [<- eV]; exact (Below.refl _ _).alloc (Nat.le_refl _) _
        have xk : Blk V2 V1.heap.size 42 #[.slice VA l vc] := by rw [<- eV]; exact Blk.new _ _ _
        rw [eV]
        clear eV
        replace hc := hc.trans (hbn.mono hc.size)
        replace xe := xe.below_top hbn
        obtain ⟨p2, hp⟩ : ∃ p, p = V1.heap.size := ⟨_, rfl⟩
        rw [<- hp] at xk ⊢
        clear hp hbn
        have hS := HKS.out _ (HB0.out.trans (hc.mono HBV0.out))
        refine hK _ _ hS ?_
        clear hK
        try simp only [Act.put, zq1, zq2, zq3, zq4, zq5, zq6]
        refine anyY_g (i := 8) (by kernel_rfl) rfl rfl ?_
        intro K hK
        try simp only [zq1, zq2, zq3]
        refine wp_concatI rfl (.tmp 39) (.tmp 44) rfl p0 (sl p0 0 0) 0 [] (by rfl) xe (.slice A1 m1 c1) m1 (intsN (T.getD i [])) (by rfl) (HRW.out _ hc) (by omega) (own_base xe) ?_
        intro u8 V3 xr hbn q2 q3
        obtain ⟨UA, uc, e8, -, -, -⟩ := xr.readsI.form
        subst e8
        rw [Nat.zero_add, List.nil_append] at xr
        simp only [Nat.zero_add]
        replace xk := blkTurn xk xe q2 (by decide)
        replace hc := hc.trans (hbn.mono hp0)
        clear xe hbn q2 q3 hpz
        have hS := HKS.out _ (HB0.out.trans (hc.mono HBV0.out))
        refine hK _ _ hS ?_
        clear hK
        try simp only [Act.put, zq1, zq2, zq3, zq4, zq5, zq6]
        refine anyY_g (i := 9) (by kernel_rfl) rfl rfl ?_
        intro K hK
        try simp only [zq1, zq2, zq3]
        go_simp
        obtain ⟨V4, eV⟩ : ∃ W', V3.alloc (.cells #[.slice UA m1 uc] 22) = W' := ⟨_, rfl⟩
        have hbn : Below V3.heap.size V3 V4 := by rw [<- eV]; exact (Below.refl _ _).alloc (Nat.le_refl _) _
        have xb : Blk V4 V3.heap.size 22 #[.slice UA m1 uc] := by rw [<- eV]; exact Blk.new _ _ _
        rw [eV]
        clear eV
        replace hc := hc.trans (hbn.mono hc.size)
        replace xr := xr.below_top hbn
        replace xk := Blk.below xk hbn xk.lt
        obtain ⟨p1, hp⟩ : ∃ p, p = V3.heap.size := ⟨_, rfl⟩
        rw [<- hp] at xb ⊢
        clear hp hbn
        have hS := HKS.out _ (HB0.out.trans (hc.mono HBV0.out))
        refine hK _ _ hS ?_
        clear hK
        try simp only [Act.put, zq1, zq2, zq3, zq4, zq5, zq6]
        refine anyY_g (i := 10) (by kernel_rfl) rfl rfl ?_
        intro K hK
        try simp only [zq1, zq2, zq3]
        have hN := HN0.out.below hc
        have hO := HO0.out.below hc
        have hu := ownsRow_bel HU0.out hc
        have hb := HB0.out.trans (hc.mono HBV0.out)
        have hBV : B <= V4.heap.size := Nat.le_trans HBV0.out hc.size
        have hap : Apart (.slice XA i xc) (.slice UA m1 uc) := apart_lt HN0.out xr hp0
        replace xr : Own V4 B (.slice UA m1 uc) m1 _ := xr.more (Nat.le_trans HBV0.out hp0)
        obtain ⟨vals, hvals, hpush⟩ := hN.pushV
        have hvals1 := hvals
        unfold OwnE at hvals1
        rw [flat1] at hvals1
        refine wp_pushK rfl (.tmp 38) (.tmp 46) 24 22 rfl 1 24 _ Try.underlying24 info_row rfl (by omega) (by omega) B (.slice XA i xc) i vals (by rfl) hvals1 p1 (by rfl) #[.slice UA m1 uc] rfl xb (by simp [Value.oneCell']) hi9 hBV ?_
        intro g9 cap9 V5 q1 q2 q3
        have hP : PushedE (fun u : Value => [u]) 22 1 B V4 V5 (.slice XA i xc) g9 cap9 i vals (.slice UA m1 uc) := pushedE_of hvals1 q1 q2 q3
        replace xk := blkTurn xk hvals1 q2 (by decide)
        replace hN := hpush _ _ _ _ _ _ hP xr hap
        replace hO := hO.keepG q2 hvals1 (by decide) (by decide)
        replace hu := rowTurn hu hvals1 q2 (by decide)
        replace hb := below_grown hb q2 hBV (fun z hz => (hvals1.lt z hz).1)
        replace hBV := Nat.le_trans hBV q2.size
        clear hvals hvals1 hpush hP q1 q2 q3 hap xr xb hc hp0
        have hS := HKS.out _ hb
        refine hK _ _ hS ?_
        clear hK
        try simp only [Act.put, zq1, zq2, zq3, zq4, zq5, zq6]
        refine tky (i := 16) (v := ?_) hS ?_ ?_
        rotate_left
        ·rintro w' ⟨s0', s1', s2', s3'⟩
         go_simp
         try with_reducible rfl
        try simp only [Act.put, zq1, zq2, zq3, zq4, zq5, zq6]
        refine anyY_g (i := 15) (by kernel_rfl) rfl rfl ?_
        intro K hK
        try simp only [zq1, zq2, zq3]
        obtain ⟨vals, hvals, hpush⟩ := hO.pushV
        have hvals1 := hvals
        unfold OwnE at hvals1
        rw [flat1] at hvals1
        refine wp_pushK rfl (.tmp 49) (.tmp 51) 28 42 rfl 1 24 _ Try.underlying28 info_vrow rfl (by omega) (by omega) B (.slice YA i yc) i vals (by rfl) hvals1 p2 (by rfl) #[.slice VA l vc] rfl xk (by simp [Value.oneCell']) hi9 hBV ?_
        intro g7 cap7 V6 q1 q2 q3
        have hP : PushedE (fun u : Value => [u]) 42 1 B V5 V6 (.slice YA i yc) g7 cap7 i vals (.slice VA l vc) := pushedE_of hvals1 q1 q2 q3
        replace hO := hpush _ _ _ _ _ _ hP hu HAP.out
        replace hN := hN.keepG q2 hvals1 (by decide) (by decide)
        replace hb := below_grown hb q2 hBV (fun z hz => (hvals1.lt z hz).1)
        replace hBV := Nat.le_trans hBV q2.size
        clear hvals hvals1 hpush hP q1 q2 q3 hu xk
        have hS := HKS.out _ hb
        refine hK _ _ hS ?_
        clear hK
        try simp only [Act.put, zq1, zq2, zq3, zq4, zq5, zq6]
        have hx5 := Blk.below HX5.out hb HB5.out
        have k0 := Blk.cell hx5 0; have k1 := Blk.cell hx5 1; have f0 := Blk.frozen hx5 0; have f1 := Blk.frozen hx5 1
        simp only [List.getElem?_toArray, List.getElem?_cons_zero, List.getElem?_cons_succ] at k0 k1
        have HE := Lib.hid (pickEnd hx5 HM1.out hN hO hb HBW.out HB5.out HF4.out HW4.out)
        clear hx5 hN hO hb hBV hS
        refine anyY_h (i := 17) (by kernel_rfl) (by kernel_rfl) rfl rfl ?_
        intro K hK
        try simp only [zq1, zq2, zq3]
        go_simp
        refine hK _ _ ?_
        clear hK
        try simp only [Act.put, zq1, zq2, zq3, zq4, zq5, zq6]
        refine anyY_h (i := 18) (by kernel_rfl) (by kernel_rfl) rfl rfl ?_
        intro K hK
        try simp only [zq1, zq2, zq3]
        go_simp
        refine hK _ _ ?_
        clear hK
        try simp only [Act.put, zq1, zq2, zq3, zq4, zq5, zq6]
        refine anyY_last (i := 19) (by kernel_rfl) (by kernel_rfl) (by kernel_rfl) rfl rfl ?_
        try simp only [zq1, zq2, zq3]
        go_simp
        try apply_assumption
        clear k0 k1 f0 f1
        go_wp2_with fail
        exact ⟨⟨i + 1, by go_num, by omega, HE⟩, by simp [intOf]; omega⟩
      ·intro K hK
       try simp only [zq1, zq2, zq3]
       go_simp
       obtain ⟨V1, eV⟩ : ∃ W', V0.alloc (.cells #[.slice VA l vc] 42) = W' := ⟨_, rfl⟩
       have hbn : Below V0.heap.size V0 V1 := by rw [<- eV]; exact (Below.refl _ _).alloc (Nat.le_refl _) _
       have xk : Blk V1 V0.heap.size 42 #[.slice VA l vc] := by rw [<- eV]; exact Blk.new _ _ _
       rw [eV]
       clear eV
       replace hc := hc.trans (hbn.mono hc.size)
       obtain ⟨p2, hp⟩ : ∃ p, p = V0.heap.size := ⟨_, rfl⟩
       rw [<- hp] at xk ⊢
       clear hp hbn
       have hS := HKS.out _ (HB0.out.trans (hc.mono HBV0.out))
       refine hK _ _ hS ?_
       clear hK
       try simp only [Act.put, zq1, zq2, zq3, zq4, zq5, zq6]
       refine anyY_g (i := 2) (by kernel_rfl) rfl rfl ?_
       intro K hK
       try simp only [zq1, zq2, zq3]
       go_simp
       obtain ⟨V2, eV⟩ : ∃ W', V1.alloc (.cells #[] 3) = W' := ⟨_, rfl⟩
       have hbn : Below V1.heap.size V1 V2 := by rw [<- eV]; exact (Below.refl _ _).alloc (Nat.le_refl _) _
       have xe : Own V2 V1.heap.size (sl V1.heap.size 0 0) 0 [] := by rw [<- eV]; exact Own.none_ _
       rw [eV]
       clear eV
       have hcs : V0.heap.size <= V1.heap.size := hc.size
       replace hc := hc.trans (hbn.mono hc.size)
       replace xk := Blk.below xk hbn xk.lt
       obtain ⟨p0, hp⟩ : ∃ p, p = V1.heap.size := ⟨_, rfl⟩
       have hpz : p0 <= V2.heap.size := by rw [hp]; exact hbn.size
       have hp0 : V0.heap.size <= p0 := Nat.le_trans hcs (Nat.le_of_eq hp.symm)
       rw [<- hp] at xe ⊢
       clear hp hbn hcs
       have hS := HKS.out _ (HB0.out.trans (hc.mono HBV0.out))
       refine hK _ _ hS ?_
       clear hK
       try simp only [Act.put, zq1, zq2, zq3, zq4, zq5, zq6]
       refine anyY_g (i := 8) (by kernel_rfl) rfl rfl ?_
       intro K hK
       try simp only [zq1, zq2, zq3]
       refine wp_concatI rfl (.tmp 39) (.tmp 44) rfl p0 (sl p0 0 0) 0 [] (by rfl) xe (.slice A1 m1 c1) m1 (intsN (T.getD i [])) (by rfl) (HRW.out _ hc) (by omega) (own_base xe) ?_
       intro u8 V3 xr hbn q2 q3
       obtain ⟨UA, uc, e8, -, -, -⟩ := xr.readsI.form
       subst e8
       rw [Nat.zero_add, List.nil_append] at xr
       simp only [Nat.zero_add]
       replace xk := blkTurn xk xe q2 (by decide)
       replace hc := hc.trans (hbn.mono hp0)
       clear xe hbn q2 q3 hpz
       have hS := HKS.out _ (HB0.out.trans (hc.mono HBV0.out))
       refine hK _ _ hS ?_
       clear hK
       try simp only [Act.put, zq1, zq2, zq3, zq4, zq5, zq6]
       refine anyY_g (i := 9) (by kernel_rfl) rfl rfl ?_
       intro K hK
       try simp only [zq1, zq2, zq3]
       go_simp
       obtain ⟨V4, eV⟩ : ∃ W', V3.alloc (.cells #[.slice UA m1 uc] 22) = W' := ⟨_, rfl⟩
       have hbn : Below V3.heap.size V3 V4 := by rw [<- eV]; exact (Below.refl _ _).alloc (Nat.le_refl _) _
       have xb : Blk V4 V3.heap.size 22 #[.slice UA m1 uc] := by rw [<- eV]; exact Blk.new _ _ _
       rw [eV]
       clear eV
       replace hc := hc.trans (hbn.mono hc.size)
       replace xr := xr.below_top hbn
       replace xk := Blk.below xk hbn xk.lt
       obtain ⟨p1, hp⟩ : ∃ p, p = V3.heap.size := ⟨_, rfl⟩
       rw [<- hp] at xb ⊢
       clear hp hbn
       have hS := HKS.out _ (HB0.out.trans (hc.mono HBV0.out))
       refine hK _ _ hS ?_
       clear hK
       try simp only [Act.put, zq1, zq2, zq3, zq4, zq5, zq6]
       refine anyY_g (i := 10) (by kernel_rfl) rfl rfl ?_
       intro K hK
       try simp only [zq1, zq2, zq3]
       have hN := HN0.out.below hc
       have hO := HO0.out.below hc
       have hu := ownsRow_bel HU0.out hc
       have hb := HB0.out.trans (hc.mono HBV0.out)
       have hBV : B <= V4.heap.size := Nat.le_trans HBV0.out hc.size
       have hap : Apart (.slice XA i xc) (.slice UA m1 uc) := apart_lt HN0.out xr hp0
       replace xr : Own V4 B (.slice UA m1 uc) m1 _ := xr.more (Nat.le_trans HBV0.out hp0)
       obtain ⟨vals, hvals, hpush⟩ := hN.pushV
       have hvals1 := hvals
       unfold OwnE at hvals1
       rw [flat1] at hvals1
       refine wp_pushK rfl (.tmp 38) (.tmp 46) 24 22 rfl 1 24 _ Try.underlying24 info_row rfl (by omega) (by omega) B (.slice XA i xc) i vals (by rfl) hvals1 p1 (by rfl) #[.slice UA m1 uc] rfl xb (by simp [Value.oneCell']) hi9 hBV ?_
       intro g9 cap9 V5 q1 q2 q3
       have hP : PushedE (fun u : Value => [u]) 22 1 B V4 V5 (.slice XA i xc) g9 cap9 i vals (.slice UA m1 uc) := pushedE_of hvals1 q1 q2 q3
       replace xk := blkTurn xk hvals1 q2 (by decide)
       replace hN := hpush _ _ _ _ _ _ hP xr hap
       replace hO := hO.keepG q2 hvals1 (by decide) (by decide)
       replace hu := rowTurn hu hvals1 q2 (by decide)
       replace hb := below_grown hb q2 hBV (fun z hz => (hvals1.lt z hz).1)
       replace hBV := Nat.le_trans hBV q2.size
       clear hvals hvals1 hpush hP q1 q2 q3 hap xr xb hc hp0
       have hS := HKS.out _ hb
       refine hK _ _ hS ?_
       clear hK
       try simp only [Act.put, zq1, zq2, zq3, zq4, zq5, zq6]
       refine tky (i := 16) (v := ?_) hS ?_ ?_
       rotate_left
       ·rintro w' ⟨s0', s1', s2', s3'⟩
        go_simp
        try with_reducible rfl
       try simp only [Act.put, zq1, zq2, zq3, zq4, zq5, zq6]
       refine anyY_g (i := 15) (by kernel_rfl) rfl rfl ?_
       intro K hK
       try simp only [zq1, zq2, zq3]
       obtain ⟨vals, hvals, hpush⟩ := hO.pushV
       have hvals1 := hvals
       unfold OwnE at hvals1
       rw [flat1] at hvals1
       refine wp_pushK rfl (.tmp 49) (.tmp 51) 28 42 rfl 1 24 _ Try.underlying28 info_vrow rfl (by omega) (by omega) B (.slice YA i yc) i vals (by rfl) hvals1 p2 (by rfl) #[.slice VA l vc] rfl xk (by simp [Value.oneCell']) hi9 hBV ?_
       intro g7 cap7 V6 q1 q2 q3
       have hP : PushedE (fun u : Value => [u]) 42 1 B V5 V6 (.slice YA i yc) g7 cap7 i vals (.slice VA l vc) := pushedE_of hvals1 q1 q2 q3
       replace hO := hpush _ _ _ _ _ _ hP hu HAP.out
       replace hN := hN.keepG q2 hvals1 (by decide) (by decide)
       replace hb := below_grown hb q2 hBV (fun z hz => (hvals1.lt z hz).1)
       replace hBV := Nat.le_trans hBV q2.size
       clear hvals hvals1 hpush hP q1 q2 q3 hu xk
       have hS := HKS.out _ hb
       refine hK _ _ hS ?_
       clear hK
       try simp only [Act.put, zq1, zq2, zq3, zq4, zq5, zq6]
       have hx5 := Blk.below HX5.out hb HB5.out
       have k0 := Blk.cell hx5 0; have k1 := Blk.cell hx5 1; have f0 := Blk.frozen hx5 0; have f1 := Blk.frozen hx5 1
       simp only [List.getElem?_toArray, List.getElem?_cons_zero, List.getElem?_cons_succ] at k0 k1
       have HE := Lib.hid (pickEnd hx5 HM1.out hN hO hb HBW.out HB5.out HF4.out HW4.out)
       clear hx5 hN hO hb hBV hS
       refine anyY_h (i := 17) (by kernel_rfl) (by kernel_rfl) rfl rfl ?_
       intro K hK
       try simp only [zq1, zq2, zq3]
       go_simp
       refine hK _ _ ?_
       clear hK
       try simp only [Act.put, zq1, zq2, zq3, zq4, zq5, zq6]
       refine anyY_h (i := 18) (by kernel_rfl) (by kernel_rfl) rfl rfl ?_
       intro K hK
       try simp only [zq1, zq2, zq3]
       go_simp
       refine hK _ _ ?_
       clear hK
       try simp only [Act.put, zq1, zq2, zq3, zq4, zq5, zq6]
       refine anyY_last (i := 19) (by kernel_rfl) (by kernel_rfl) (by kernel_rfl) rfl rfl ?_
       try simp only [zq1, zq2, zq3]
       go_simp
       try apply_assumption
       clear k0 k1 f0 f1
       go_wp2_with fail
       exact ⟨⟨i + 1, by go_num, by omega, HE⟩, by simp [intOf]; omega⟩
   ·obtain rfl : n = i := by omega
    have hx4 := hfr.blk HX4.out (by omega)
    have k0 := Blk.cell hxb 0; have k1 := Blk.cell hxb 1
    have r0 := Blk.cell hx4 0; have r1 := Blk.cell hx4 1; have f0 := Blk.frozen hx4 0; have f1 := Blk.frozen hx4 1
    simp only [List.getElem?_toArray, List.getElem?_cons_zero, List.getElem?_cons_succ] at k0 k1 r0 r1
    have HN0 := Lib.hid hno; have HO0 := Lib.hid hoo
    have HBW := Lib.hid (HBL4.out.trans (hfr.below (B := w.heap.size) (by have := HBL4.out.size; omega) (fun q hq e => by omega)))
    clear hno hoo hxb hfr hx2 hx4 HJ
    go_wp2_with fail
    refine bodyPost_ret (v := .agg #[.slice XA n xc, .slice YA n yc]) (by simp [results, Try.results29, go_sem, r0, r1]) rfl ?_
    have hfr2 : Fr (fun q => q = b4) wr ((wr.setCell ⟨b4, 0, none⟩ (.slice XA n xc)).setCell ⟨b4, 1, none⟩ (.slice YA n yc)) := ((Fr.refl (fun q => q = b4) wr).set_ (p := ⟨b4, 0, none⟩) (.inl rfl) _).set_ (p := ⟨b4, 1, none⟩) (.inl rfl) _
    exact ⟨_, _, rfl, (HN0.out.fr' hfr2 (fun q hq e => by have := HB5.out; omega)).more' h0B, (HO0.out.fr' hfr2 (fun q hq e => by have := HB5.out; omega)).more' h0B, HBW.out.trans (hfr2.below HBW.out.size (fun q hq e => by omega))⟩
end Go.Proofs.Ytdcokkgdahbinaa
