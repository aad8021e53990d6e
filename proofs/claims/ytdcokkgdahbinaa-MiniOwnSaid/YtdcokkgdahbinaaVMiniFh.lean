/- mini.Pick, of a machine, of labels that are places. -/
import Derived.Test.YtdcokkgdahbinaaVMiniFf
import Derived.Test.YtdcokkgdahbinaaVLastY
set_option linter.unusedVariables false
set_option linter.unusedSimpArgs false
set_option maxRecDepth 100000
set_option maxHeartbeats 8000000
namespace Go.Proofs.Ytdcokkgdahbinaa
open Go Go.RowKit Go.Proofs
def xssT (T : List (List Nat)) (j : Nat) : List (Nat × List Value) := (List.range j).map fun i => ((T.getD i []).length, (intsN (T.getD i [])).map (Value.int .i64))
def xssK (E : List (List V3)) (ls : List Nat) (l j : Nat) : List (Nat × List Value) := (List.range j).map fun i => (l, (ls.map fun a => (E.getD i []).getD a zV).flatMap encV)
theorem xssT_succ (T : List (List Nat)) (j : Nat) : xssT T (j + 1) = xssT T j ++ [((T.getD j []).length, (intsN (T.getD j [])).map (Value.int .i64))] := by unfold xssT; rw [List.range_succ, List.map_append]; rfl
theorem xssK_succ (E : List (List V3)) (ls : List Nat) (l j : Nat) : xssK E ls l (j + 1) = xssK E ls l j ++ [(l, (ls.map fun a => (E.getD j []).getD a zV).flatMap encV)] := by unfold xssK; rw [List.range_succ, List.map_append]; rfl
section
variable {w w' V V' : World} {B B' : Nat} {e e' t : TypeId} {sz k : Nat} {v u : Value} {xss : List (Nat × List Value)}
theorem _root_.Go.Proofs.Ytdcokkgdahbinaa.below_size {C : Nat} (h : Below C w w') : w.heap.size <= w'.heap.size := h.size
theorem apart_new {t s n : Nat} {xs : List Value} (h : OwnLL V B e e' sz v k xss) (hu : V'.ownsRow V.heap.size t s u n xs) : Apart v u := by
 cases hv : v.ownBlock with
 | none => exact .inl hv
 | some z =>
   refine .inr (.inr (fun q => ?_))
   rw [hv] at q
   have h1 := (h.lt z hv).2
   have h2 := (hu.lt z q.symm).1
   omega
theorem pushedE_of {g cap n : Nat} {vals : List Value} (h : V.ownsRow B e 1 v n vals) (q1 : V'.ownsRow B e 1 (.slice (some ⟨g, 0, none⟩) (n + 1) cap) (n + 1) (vals ++ #[u].toList)) (q2 : V.grownBy V' v.ownBlock) (q3 : v.ownBlock = some g \/ g = V.heap.size) : PushedE (fun u : Value => [u]) e 1 B V V' v g cap n vals u :=
 ⟨by unfold OwnE; rw [flat1]; exact q1, q2, q3.elim .inl (fun q => .inr (Nat.le_of_eq q.symm)), h.lt⟩
theorem OwnLL.keepG {n s : Nat} {xs : List Value} (h : OwnLL V B e e' sz v k xss) (hg : V.grownBy V' u.ownBlock) (hu : V.ownsRow B' t s u n xs) (h1 : e ≠ t) (h2 : e' ≠ t) : OwnLL V' B e e' sz v k xss := by
 have key : ∀ {x : Value} {a b c : Nat} {ys : List Value}, V.ownsRow B a b x c ys -> a ≠ t -> V'.ownsRow B a b x c ys := fun {x a b c ys} hr hne => World.ownsRow.kept hr hg (by
  cases hx : x.ownBlock with
  | none => exact .inl rfl
  | some z => exact .inr (fun q => rows_ne hr hu hne z hx q.symm))
 obtain ⟨h3, vals, h4, h5⟩ := h
 exact ⟨h3, vals, key h4 h1, fun i hi => ⟨key (h5 i hi).1 h2, (h5 i hi).2⟩⟩
theorem below_grown {row : Option Nat} (h : Below B w V) (hg : V.grownBy V' row) (hB : B <= V.heap.size) (hr : ∀ z, row = some z -> B <= z) : Below B w V' := h.grown hg hB hr
end
def PickAt (w4 W : World) (B b4 : Nat) (T : List (List Nat)) (E : List (List V3)) (ls : List Nat) (l j : Nat) : Prop :=
 ∃ XA xc YA yc, Blk W b4 30 #[.slice XA j xc, .slice YA j yc] /\ OwnLL W B 22 3 1 (.slice XA j xc) j (xssT T j) /\ OwnLL W B 42 53 3 (.slice YA j yc) j (xssK E ls l j) /\ Fr (fun q => q = b4) w4 W
theorem pickEnd {w4 wr V : World} {B b4 j g1 c1 g2 c2 m l : Nat} {T : List (List Nat)} {E : List (List V3)} {ls : List Nat} {x y : Value}
  (hx : Blk V b4 30 #[x, y]) (hm : m = (T.getD j []).length) (hn : OwnLL V B 22 3 1 (sl g1 (j + 1) c1) (j + 1) (xssT T j ++ [(m, (intsN (T.getD j [])).map (Value.int .i64))])) (ho : OwnLL V B 42 53 3 (sl g2 (j + 1) c2) (j + 1) (xssK E ls l j ++ [(l, (ls.map fun a => (E.getD j []).getD a zV).flatMap encV)]))
  (hb : Below B wr V) (hB : B <= wr.heap.size) (hb4 : b4 < B) (hf : Fr (fun q => q = b4) w4 wr) (hw4 : w4.heap.size = B) :
  PickAt w4 ((V.setCell ⟨b4, 0, none⟩ (sl g1 (j + 1) c1)).setCell ⟨b4, 1, none⟩ (sl g2 (j + 1) c2)) B b4 T E ls l (j + 1) := by
  have hfr : Fr (fun q => q = b4) V ((V.setCell ⟨b4, 0, none⟩ (sl g1 (j + 1) c1)).setCell ⟨b4, 1, none⟩ (sl g2 (j + 1) c2)) := ((Fr.refl (fun q => q = b4) V).set_ (p := ⟨b4, 0, none⟩) (.inl rfl) _).set_ (p := ⟨b4, 1, none⟩) (.inl rfl) _
  rw [hm, <- xssT_succ] at hn
  rw [<- xssK_succ] at ho
  refine ⟨_, _, _, _, ?_, hn.fr' hfr (fun q hq e => by omega), ho.fr' hfr (fun q hq e => by omega), ?_⟩
  ·have := (hx.set_ 0 (sl g1 (j + 1) c1)).set_ 1 (sl g2 (j + 1) c2)
   simpa using this
  ·have h1 : Fr (fun q => B <= q) wr V := ⟨hb.os, hb.tape, hb.output, hb.size, fun q hq hx => hb.block q (by omega)⟩
   exact (hf.then_ h1 (fun q hq e => by omega)).trans hfr
theorem pick_any {w : World} {NA OA LA : Option Addr} {nc oc n k q l lc : Nat} {T : List (List Nat)} {E : List (List V3)} {ls : List Nat} (h : NextR w (.slice NA n nc) T) (hl : T.length = n) (hT : RectN T k) (ho : EmitR w (.slice OA n oc) E) (hel : E.length = n) (hq : ∀ i, i < n -> (E.getD i []).length = q) (hq9 : q <= 1000)
  (hv : ReadsI w (.slice LA l lc) l (intsN ls)) (hls : ∀ a ∈ ls, a < q) (hl9 : l <= 1000) (hn : n <= 1000) (hk : k <= 1000) :
  Calls Try.prog 28 #[.agg #[.slice NA n nc, .slice OA n oc], .slice LA l lc] w fun e w' => ∃ vn vo, e = .returned (.agg #[vn, vo]) /\ OwnLL w' w.heap.size 22 3 1 vn n (xssT T n) /\ OwnLL w' w.heap.size 42 53 3 vo n (xssK E ls l n) /\ Below w.heap.size w w' := by
  have hpos : 0 < n := by have := hT.pos; omega
  obtain ⟨OA', c', e, hoc, hoc2⟩ := ho.form
  rw [hel] at hoc
  simp only [Value.slice.injEq] at e
  obtain ⟨rfl, -, rfl⟩ := e
  obtain ⟨NA', nc', e, hnc, hnc2⟩ := h.form
  rw [hl] at hnc
  simp only [Value.slice.injEq] at e
  obtain ⟨rfl, -, rfl⟩ := e
  obtain ⟨W0, hW0⟩ : ∃ W0, ((w.alloc (.cells #[.slice NA n nc, .slice OA n oc] 30)).alloc (.cells #[.slice none 0 0, .slice none 0 0] 30)).alloc (.cells #[.slice NA n nc, .slice OA n oc] 73) = W0 := ⟨_, rfl⟩
  have hb0 : Below w.heap.size w W0 := by rw [<- hW0]; exact (((Below.refl _ _).alloc (Nat.le_refl _) _).alloc (by simp) _).alloc (by simp; omega) _
  have hx1 : Blk W0 w.heap.size 30 #[.slice NA n nc, .slice OA n oc] := by rw [<- hW0]; exact ((Blk.new _ _ _).alloc _).alloc _
  have hx2 : Blk W0 (w.heap.size + 1) 30 #[.slice none 0 0, .slice none 0 0] := by
   rw [<- hW0]
   have := Blk.new (w.alloc (.cells #[.slice NA n nc, .slice OA n oc] 30)) 30 #[.slice none 0 0, .slice none 0 0]
   rw [World.size_alloc] at this
   exact this.alloc _
  have hx3 : Blk W0 (w.heap.size + 1 + 1) 73 #[.slice NA n nc, .slice OA n oc] := by
   rw [<- hW0]
   have := Blk.new ((w.alloc (.cells #[.slice NA n nc, .slice OA n oc] 30)).alloc (.cells #[.slice none 0 0, .slice none 0 0] 30)) 73 #[.slice NA n nc, .slice OA n oc]
   rw [World.size_alloc, World.size_alloc] at this
   exact this
  obtain ⟨b1, hb1⟩ : ∃ b, b = w.heap.size := ⟨_, rfl⟩
  obtain ⟨b2, hb2⟩ : ∃ b, b = w.heap.size + 1 := ⟨_, rfl⟩
  obtain ⟨b3, hb3⟩ : ∃ b, b = w.heap.size + 1 + 1 := ⟨_, rfl⟩
  rw [<- hb1] at hx1
  rw [<- hb2] at hx2
  rw [<- hb3] at hx3
  have hri := fright_any (h.below hb0) hl hT (ho.below hb0) hel hq hn hk
  have HRI := Lib.hid hri; have HNR := Lib.hid h; have HO := Lib.hid ho; have HL := Lib.hid hl; have HT := Lib.hid hT; have HB0 := Lib.hid hb0; have HW0 := Lib.hid hW0; have HB1 := Lib.hid hb1; have HB2 := Lib.hid hb2; have HB3 := Lib.hid hb3; have HX1 := Lib.hid hx1; have HX2 := Lib.hid hx2; have HX3 := Lib.hid hx3; have HEL := Lib.hid hel; have HQ := Lib.hid hq; have HV := Lib.hid hv; have HLS := Lib.hid hls
  clear h hl hT ho hb0 hW0 hb1 hb2 hb3 hx1 hx2 hx3 hri hel hq hv hls
  go_enter Try.func28, Try.ntmps28
  go_wp2_with fail
  rw [HW0.out, <- HB3.out, <- HB2.out, <- HB1.out]
  refine HRI.out.mono ?_
  rintro e w1 ⟨rfl, hc1⟩
  have hbl1 := HB0.out.trans (hc1.mono HB0.out.size)
  have hx3 := Blk.below HX3.out hc1 HX3.out.lt
  have b30 := hx3.cell 0; have b31 := hx3.cell 1
  simp only [List.getElem?_toArray, List.getElem?_cons_zero, List.getElem?_cons_succ] at b30 b31
  have hha := has_any (NA := NA) (nc := nc) (n := n) (HO.out.below hbl1) HEL.out hpos (HQ.out 0 hpos) (HV.out.below hbl1) HLS.out hq9 hl9
  have HHA := Lib.hid hha; have HC1 := Lib.hid hc1; have HBL1 := Lib.hid hbl1
  clear hha hc1 hbl1 hx3
  go_wp2_with fail
  refine HHA.out.mono ?_
  rintro e w2 ⟨rfl, hc2⟩
  obtain ⟨w4, hw4⟩ : ∃ w4, w2.alloc (.cells #[.slice none 0 0, .slice none 0 0] 30) = w4 := ⟨_, rfl⟩
  have hc4 : Below w2.heap.size w2 w4 := by rw [<- hw4]; exact (Below.refl _ _).alloc (Nat.le_refl _) _
  have hx4 : Blk w4 w2.heap.size 30 #[.slice none 0 0, .slice none 0 0] := by rw [<- hw4]; exact Blk.new _ _ _
  obtain ⟨b4, hb4⟩ : ∃ b, b = w2.heap.size := ⟨_, rfl⟩
  rw [<- hb4] at hx4
  have hc02 : Below W0.heap.size W0 w2 := HC1.out.trans (hc2.mono HC1.out.size)
  have hc04 : Below W0.heap.size W0 w4 := hc02.trans (hc4.mono hc02.size)
  have hbl4 := HB0.out.trans (hc04.mono HB0.out.size)
  have hx1 := Blk.below HX1.out hc04 HX1.out.lt
  have c10 := hx1.cell 0
  simp only [List.getElem?_toArray, List.getElem?_cons_zero, List.getElem?_cons_succ] at c10
  have hz4 : b4 < b4 + 1 := Nat.lt_succ_self _
  obtain ⟨B, hB⟩ : ∃ B, w4.heap.size = B := ⟨_, rfl⟩
  have hBb : b4 < B := by rw [<- hB]; exact hx4.lt
  have h0w : w.heap.size <= B := by rw [<- hB]; exact hbl4.size
  have hb3B : b3 < b4 := by rw [hb4]; exact Nat.lt_of_lt_of_le HX3.out.lt hc02.size
  have hb2B : b2 < b4 := by rw [hb4]; exact Nat.lt_of_lt_of_le HX2.out.lt hc02.size
  have hW0b : W0.heap.size <= b4 := by rw [hb4]; exact hc02.size
  have h0b2 : w.heap.size < b2 := by have := HB2.out; omega
  have hst : PickAt w4 w4 B b4 T E ls l 0 := ⟨none, 0, none, 0, hx4, OwnLL.nil _ _ _ _ _, OwnLL.nil _ _ _ _ _, Fr.refl _ _⟩
  have HST := Lib.hid hst; have HW2 := Lib.hid hw4; have HBE := Lib.hid hB; have HC04 := Lib.hid hc04; have HBL4 := Lib.hid hbl4; have HB4E := Lib.hid hb4
  rw [<- hw4] at c10
  clear hst hw4 hB hc4 hx4 hc02 hc04 hbl4 hx1 hb4 hc2 HHA HRI b30 b31 HC1
  have n0 : (0 : Int) <= (n : Int) := Int.natCast_nonneg _
  go_wp2_with fail
  rw [HW2.out, <- HB4E.out]
  clear c10
  go_loopw [28] (fun vi wr => ∃ j : Nat, vi = .int .i64 (j : Int) /\ j <= n /\ Hid (PickAt w4 wr B b4 T E ls l j)) (fun vi _ => n - (intOf vi).toNat)
  case atStart => exact ⟨0, rfl, Nat.zero_le _, HST⟩
  case round =>
   clear HST
   obtain ⟨j, rfl, hj, HJ⟩ := hrel
   obtain ⟨XA, xc, YA, yc, hxb, hno, hoo, hfr⟩ := HJ.out
   have j0 : (0 : Int) <= (j : Int) := Int.natCast_nonneg _
   have hbwr : Below b4 w4 wr := hfr.below (by rw [HBE.out]; exact Nat.le_of_lt hBb) (fun q hq e => by omega)
   have hbww : Below w.heap.size w wr := HBL4.out.trans (hbwr.mono (by have := HB2.out; omega))
   by_cases hlt : j < n
   ·have j1 : (j : Int) < (n : Int) := by omega
    have tj : decide (j < n) = true := by simpa using hlt
    obtain ⟨gb, go, A1, m1, c1, hA1, hm1, d1, r1, q1, q2⟩ := HNR.out.at_ (i := j) (by rw [HL.out]; exact hlt)
    subst hA1
    replace d1 := bel_m hbww d1
    have hwB : B <= wr.heap.size := by rw [<- HBE.out]; exact hbwr.size
    have hm9 : m1 <= 1000 := by rw [hm1, HT.out.len j (by rw [HL.out]; exact hlt)]; exact hk
    have hxx := Blk.below HX3.out (HC04.out.trans (hbwr.mono hW0b)) HX3.out.lt
    have HKS : Hid (∀ W : World, Below B wr W -> (fun W : World => W.cell? ⟨b4, 0, none⟩ = some (.slice XA j xc) /\ W.cell? ⟨b4, 1, none⟩ = some (.slice YA j yc) /\ W.cell? ⟨b3, 0, none⟩ = some (.slice (some ⟨gb, go, none⟩) n nc) /\ W.cell? ⟨b3, 1, none⟩ = some (.slice OA n oc)) W) := Lib.hid (fun W hW => by
     have y0 := (Blk.below hxb hW hBb).cell 0
     have y1 := (Blk.below hxb hW hBb).cell 1
     have y2 := (Blk.below hxx hW (by omega)).cell 0
     have y3 := (Blk.below hxx hW (by omega)).cell 1
     exact ⟨by simpa using y0, by simpa using y1, by simpa using y2, by simpa using y3⟩)
    have hrow : ReadsI w (.slice A1 m1 c1) m1 (intsN (T.getD j [])) := r1
    have HCL : Hid (∀ V, Below B wr V -> Calls Try.prog 45 #[.slice A1 m1 c1] V fun e w' => ∃ u, e = .returned u /\ Own w' V.heap.size u m1 (intsN (T.getD j [])) /\ Below V.heap.size V w') := Lib.hid (fun V hV => cloneI_any (hrow.below (hbww.trans (hV.mono h0w))) (by omega))
    have HPK : Hid (∀ V, Below B wr V -> Calls Try.prog 46 #[.agg #[.slice (some ⟨gb, go, none⟩) n nc, .slice OA n oc], .int .i64 (j : Int), .slice LA l lc] V fun e w' => ∃ g, e = .returned (sl g l l) /\ OwnE encV 53 3 w' V.heap.size (sl g l l) l (ls.map fun a => (E.getD j []).getD a zV) /\ Below V.heap.size V w') := Lib.hid (fun V hV => by
     have hb := hbww.trans (hV.mono h0w)
     exact picked_any (HO.out.below hb) HEL.out hlt (HV.out.below hb) (by rw [HQ.out j hlt]; exact HLS.out) hl9)
    have HN0 := Lib.hid hno; have HO0 := Lib.hid hoo; have HBW := Lib.hid hwB; have HX4 := Lib.hid hxb; have HB4 := Lib.hid hBb; have HF4 := Lib.hid hfr; have HW4 := HBE; have HM1 := Lib.hid hm1
    have hj9 : j <= 1000000 := by omega
    clear hno hoo hwB hxb hfr hbwr hbww hrow r1 hxx HJ hm1
    go_wp2_with fail
    refine region_y 15 (fun W : World => W.cell? ⟨b4, 0, none⟩ = some (.slice XA j xc) /\ W.cell? ⟨b4, 1, none⟩ = some (.slice YA j yc) /\ W.cell? ⟨b3, 0, none⟩ = some (.slice (some ⟨gb, go, none⟩) n nc) /\ W.cell? ⟨b3, 1, none⟩ = some (.slice OA n oc)) (by kernel_rfl) ?_
    have hb : Below B wr wr.drew := (Below.refl _ _).drew
    have hS := HKS.out _ hb
    have hb00 : Below wr.heap.size wr wr.drew := (Below.refl _ _).drew
    have hN := HN0.out.below hb00
    have hO := HO0.out.below hb00
    have hBV : B <= wr.drew.heap.size := Nat.le_trans HBW.out hb.size
    clear hb00
    generalize wr.drew = V0 at *
    refine tky (i := 0) (v := ?_) hS ?_ ?_
    rotate_left
    ·rintro w' ⟨s0', s1', s2', s3'⟩
     go_simp
     try with_reducible rfl
    try simp only [Act.put, zq1, zq2, zq3, zq4, zq5, zq6]
    refine tky (i := 1) (v := ?_) hS ?_ ?_
    rotate_left
    ·rintro w' ⟨s0', s1', s2', s3'⟩
     go_simp
     try with_reducible rfl
    try simp only [Act.put, zq1, zq2, zq3, zq4, zq5, zq6]
    refine tky (i := 2) (v := ?_) hS ?_ ?_
    rotate_left
    ·rintro w' ⟨s0', s1', s2', s3'⟩
     go_simp
     try with_reducible rfl
    try simp only [Act.put, zq1, zq2, zq3, zq4, zq5, zq6]
    refine tky (i := 6) (v := ?_) hS ?_ ?_
    rotate_left
    ·rintro w' ⟨s0', s1', s2', s3'⟩
     go_simp
     try with_reducible rfl
    try simp only [Act.put, zq1, zq2, zq3, zq4, zq5, zq6]
    refine tky (i := 7) (v := ?_) hS ?_ ?_
    rotate_left
    ·rintro w' ⟨s0', s1', s2', s3'⟩
     go_simp
     try with_reducible rfl
    try simp only [Act.put, zq1, zq2, zq3, zq4, zq5, zq6]
    refine tkyg [13, 11] (i := 8) (v := ?_) hS ?_ ?_
    rotate_left
    ·rintro w' ⟨s0', s1', s2', s3'⟩
     go_simp
     try with_reducible rfl
    try simp only [Act.put, zq1, zq2, zq3, zq4, zq5, zq6]
    refine tkyg [13, 11] (i := 9) (v := ?_) hS ?_ ?_
    rotate_left
    ·rintro w' ⟨s0', s1', s2', s3'⟩
     go_simp
     try with_reducible rfl
    try simp only [Act.put, zq1, zq2, zq3, zq4, zq5, zq6]
    refine tkyg [13, 11] (i := 10) (v := ?_) hS ?_ ?_
    rotate_left
    ·rintro w' ⟨s0', s1', s2', s3'⟩
     go_simp
     try with_reducible rfl
    try simp only [Act.put, zq1, zq2, zq3, zq4, zq5, zq6]
    refine anyY_g (i := 3) (by kernel_rfl) rfl rfl ?_
    intro K hK
    try simp only [zq1, zq2, zq3]
    refine wp_enterE #[.slice A1 m1 c1] Try.func45 (by kernel_rfl) (by kernel_rfl) ?_ (HCL.out V0 hb) ?_
    ·go_simp
    rintro e V1 ⟨u, rfl, hu, hbn⟩
    refine ⟨_, rfl, ?_⟩
    obtain ⟨UA, uc, rfl, -, -, -⟩ := hu.readsI.form
    have hap : Apart (.slice XA j xc) (.slice UA m1 uc) := apart_new hN hu
    replace hN := hN.below hbn
    replace hO := hO.below hbn
    replace hb := hb.trans (hbn.mono hBV)
    replace hu := hu.more hBV
    have hBV1 : B <= V1.heap.size := Nat.le_trans hBV hbn.size
    clear hbn
    replace hS := HKS.out _ hb
    refine hK _ _ hS ?_
    clear hK
    try simp only [Act.put, zq1, zq2, zq3, zq4, zq5, zq6]
    refine anyY_g (i := 4) (by kernel_rfl) rfl rfl ?_
    intro K hK
    try simp only [zq1, zq2, zq3]
    go_simp
    obtain ⟨V2, eV⟩ : ∃ W', V1.alloc (.cells #[.slice UA m1 uc] 22) = W' := ⟨_, rfl⟩
    have hbn : Below V1.heap.size V1 V2 := by rw [<- eV]; exact (Below.refl _ _).alloc (Nat.le_refl _) _
    have xb : Blk V2 V1.heap.size 22 #[.slice UA m1 uc] := by rw [<- eV]; exact Blk.new _ _ _
    rw [eV]
    clear eV
    replace hN := hN.below hbn
    replace hO := hO.below hbn
    replace hu := hu.below_top hbn
    replace hb := hb.trans (hbn.mono hBV1)
    have hBV2 : B <= V2.heap.size := Nat.le_trans hBV1 hbn.size
    clear hbn
    replace hS := HKS.out _ hb
    obtain ⟨p1, hp1⟩ : ∃ p, p = V1.heap.size := ⟨_, rfl⟩
    rw [<- hp1] at xb ⊢
    clear hp1
    refine hK _ _ hS ?_
    clear hK
    try simp only [Act.put, zq1, zq2, zq3, zq4, zq5, zq6]
    refine anyY_g (i := 5) (by kernel_rfl) rfl rfl ?_
    intro K hK
    try simp only [zq1, zq2, zq3]
    obtain ⟨vals, hvals, hpush⟩ := hN.pushV
    have hvals1 := hvals
    unfold OwnE at hvals1
    rw [flat1] at hvals1
    refine wp_pushK rfl (.tmp 34) (.tmp 37) 24 22 rfl 1 24 _ Try.underlying24 info_row rfl (by omega) (by omega) B (.slice XA j xc) j vals (by rfl) hvals1 p1 (by rfl) #[.slice UA m1 uc] rfl xb (by simp [Value.oneCell']) hj9 hBV2 ?_
    intro g9 cap9 V3 q1 q2 q3
    have hP : PushedE (fun u : Value => [u]) 22 1 B V2 V3 (.slice XA j xc) g9 cap9 j vals (.slice UA m1 uc) := pushedE_of hvals1 q1 q2 q3
    replace hN := hpush _ _ _ _ _ _ hP hu hap
    replace hO := hO.keepG q2 hvals1 (by decide) (by decide)
    replace hb := below_grown hb q2 hBV2 (fun z hz => (hvals1.lt z hz).1)
    have hBV3 : B <= V3.heap.size := Nat.le_trans hBV2 q2.size
    clear hvals hvals1 hpush hP q1 q2 q3 hu hap xb
    replace hS := HKS.out _ hb
    refine hK _ _ hS ?_
    clear hK
    try simp only [Act.put, zq1, zq2, zq3, zq4, zq5, zq6]
    refine tky (i := 14) (v := ?_) hS ?_ ?_
    rotate_left
    ·rintro w' ⟨s0', s1', s2', s3'⟩
     go_simp
     try with_reducible rfl
    try simp only [Act.put, zq1, zq2, zq3, zq4, zq5, zq6]
    refine anyY_g (i := 11) (by kernel_rfl) rfl rfl ?_
    intro K hK
    try simp only [zq1, zq2, zq3]
    refine wp_enterE #[.agg #[.slice (some ⟨gb, go, none⟩) n nc, .slice OA n oc], .int .i64 (j : Int), .slice LA l lc] Try.func46 (by kernel_rfl) (by kernel_rfl) ?_ (HPK.out V3 hb) ?_
    ·go_simp
    rintro e V4 ⟨g8, rfl, hu, hbn⟩
    refine ⟨_, rfl, ?_⟩
    have hap : Apart (.slice YA j yc) (sl g8 l l) := apart_new hO hu
    replace hN := hN.below hbn
    replace hO := hO.below hbn
    replace hb := hb.trans (hbn.mono hBV3)
    replace hu := hu.more hBV3
    have hBV4 : B <= V4.heap.size := Nat.le_trans hBV3 hbn.size
    clear hbn
    replace hS := HKS.out _ hb
    refine hK _ _ hS ?_
    clear hK
    try simp only [Act.put, zq1, zq2, zq3, zq4, zq5, zq6]
    refine anyY_g (i := 12) (by kernel_rfl) rfl rfl ?_
    intro K hK
    try simp only [zq1, zq2, zq3]
    go_simp
    obtain ⟨V5, eV⟩ : ∃ W', V4.alloc (.cells #[sl g8 l l] 42) = W' := ⟨_, rfl⟩
    have hbn : Below V4.heap.size V4 V5 := by rw [<- eV]; exact (Below.refl _ _).alloc (Nat.le_refl _) _
    have xb : Blk V5 V4.heap.size 42 #[sl g8 l l] := by rw [<- eV]; exact Blk.new _ _ _
    rw [eV]
    clear eV
    replace hN := hN.below hbn
    replace hO := hO.below hbn
    replace hu := hu.below_top hbn
    replace hb := hb.trans (hbn.mono hBV4)
    have hBV5 : B <= V5.heap.size := Nat.le_trans hBV4 hbn.size
    clear hbn
    replace hS := HKS.out _ hb
    obtain ⟨p2, hp2⟩ : ∃ p, p = V4.heap.size := ⟨_, rfl⟩
    rw [<- hp2] at xb ⊢
    clear hp2
    refine hK _ _ hS ?_
    clear hK
    try simp only [Act.put, zq1, zq2, zq3, zq4, zq5, zq6]
    refine anyY_g (i := 13) (by kernel_rfl) rfl rfl ?_
    intro K hK
    try simp only [zq1, zq2, zq3]
    obtain ⟨vals, hvals, hpush⟩ := hO.pushV
    have hvals1 := hvals
    unfold OwnE at hvals1
    rw [flat1] at hvals1
    refine wp_pushK rfl (.tmp 40) (.tmp 45) 28 42 rfl 1 24 _ Try.underlying28 info_vrow rfl (by omega) (by omega) B (.slice YA j yc) j vals (by rfl) hvals1 p2 (by rfl) #[sl g8 l l] rfl xb (by simp [Value.oneCell']) hj9 hBV5 ?_
    intro g7 cap7 V6 q1 q2 q3
    have hP : PushedE (fun u : Value => [u]) 42 1 B V5 V6 (.slice YA j yc) g7 cap7 j vals (sl g8 l l) := pushedE_of hvals1 q1 q2 q3
    replace hO := hpush _ _ _ _ _ _ hP hu hap
    replace hN := hN.keepG q2 hvals1 (by decide) (by decide)
    replace hb := below_grown hb q2 hBV5 (fun z hz => (hvals1.lt z hz).1)
    have hBV6 : B <= V6.heap.size := Nat.le_trans hBV5 q2.size
    clear hvals hvals1 hpush hP q1 q2 q3 hu hap xb
    replace hS := HKS.out _ hb
    refine hK _ _ hS ?_
    clear hK
    try simp only [Act.put, zq1, zq2, zq3, zq4, zq5, zq6]
    have hx4 := Blk.below HX4.out hb HB4.out
    have k0 := Blk.cell hx4 0; have k1 := Blk.cell hx4 1; have f0 := Blk.frozen hx4 0; have f1 := Blk.frozen hx4 1
    simp only [List.getElem?_toArray, List.getElem?_cons_zero, List.getElem?_cons_succ] at k0 k1
    have HXB := Lib.hid hx4; have HN6 := Lib.hid hN; have HO6 := Lib.hid hO; have HB6 := Lib.hid hb
    clear hx4 hN hO hb hS
    refine anyY_h (i := 15) (by kernel_rfl) (by kernel_rfl) rfl rfl ?_
    intro K hK
    try simp only [zq1, zq2, zq3]
    go_simp
    refine hK _ _ ?_
    clear hK
    try simp only [Act.put, zq1, zq2, zq3, zq4, zq5, zq6]
    refine anyY_h (i := 16) (by kernel_rfl) (by kernel_rfl) rfl rfl ?_
    intro K hK
    try simp only [zq1, zq2, zq3]
    go_simp
    refine hK _ _ ?_
    clear hK
    try simp only [Act.put, zq1, zq2, zq3, zq4, zq5, zq6]
    refine anyY_last (i := 17) (by kernel_rfl) (by kernel_rfl) (by kernel_rfl) rfl rfl ?_
    try simp only [zq1, zq2, zq3]
    go_simp
    try apply_assumption
    clear k0 k1 f0 f1
    go_wp2_with fail
    exact ⟨⟨j + 1, by go_num, by omega, Lib.hid (pickEnd HXB.out HM1.out HN6.out HO6.out HB6.out HBW.out HB4.out HF4.out HW4.out)⟩, by simp [intOf]; omega⟩
   ·obtain rfl : j = n := by omega
    have hx2 := Blk.below HX2.out (HC04.out.trans (hbwr.mono hW0b)) HX2.out.lt
    have k0 := Blk.cell hxb 0; have k1 := Blk.cell hxb 1
    have r0 := Blk.cell hx2 0; have r1 := Blk.cell hx2 1; have f0 := Blk.frozen hx2 0; have f1 := Blk.frozen hx2 1
    simp only [List.getElem?_toArray, List.getElem?_cons_zero, List.getElem?_cons_succ] at k0 k1 r0 r1
    have HN0 := Lib.hid hno; have HO0 := Lib.hid hoo; have HBW := Lib.hid hbww
    clear hno hoo hxb hfr hbwr hbww hx2 HJ
    go_wp2_with fail
    refine bodyPost_ret (v := .agg #[.slice XA j xc, .slice YA j yc]) (by simp [results, Try.results28, go_sem, r0, r1]) rfl ?_
    have hfr2 : Fr (fun q => q = b2) wr ((wr.setCell ⟨b2, 0, none⟩ (.slice XA j xc)).setCell ⟨b2, 1, none⟩ (.slice YA j yc)) := ((Fr.refl (fun q => q = b2) wr).set_ (p := ⟨b2, 0, none⟩) (.inl rfl) _).set_ (p := ⟨b2, 1, none⟩) (.inl rfl) _
    exact ⟨_, _, rfl, (HN0.out.fr' hfr2 (fun q hq e => by omega)).more' h0w, (HO0.out.fr' hfr2 (fun q hq e => by omega)).more' h0w, HBW.out.trans (hfr2.below HBW.out.size (fun q hq e => by omega))⟩
end Go.Proofs.Ytdcokkgdahbinaa
