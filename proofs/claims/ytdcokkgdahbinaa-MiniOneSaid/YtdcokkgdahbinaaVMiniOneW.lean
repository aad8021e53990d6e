/- MiniOne -/
import Derived.Test.YtdcokkgdahbinaaVMiniMa
import Derived.Test.YtdcokkgdahbinaaVMiniMg
set_option linter.unusedVariables false
set_option linter.unusedSimpArgs false
set_option maxRecDepth 100000
set_option maxHeartbeats 8000000
namespace Go.Proofs.Ytdcokkgdahbinaa
open Go Go.RowKit Go.Proofs
theorem rowFr2 {X : Nat -> Prop} {w w' : World} {B : Nat} {e : TypeId} {u : Value} {n sz : Nat} {xs : List Value} (h : w.ownsRow B e sz u n xs) (hf : Fr X w w') (hX : ∀ q, u.ownBlock = some q -> ¬ X q) : w'.ownsRow B e sz u n xs := rowFr h hf hX
structure OneAt (w5 W : World) (B1 B2 go oc ge ec k : Nat) (O : List Nat) (y : Int) (vals : List Value) (q : Nat -> Nat) (i : Nat) : Prop where
 outs : Own W B1 (sl go k oc) k (rowZ k fun j => if j < i then y else ((O.getD j 0 : Nat) : Int))
 rows : W.ownsRow B2 42 1 (sl ge k ec) k vals
 news : ∀ j, j < i -> vals.getD j undef = sl (q j) 1 1 /\ Blk W (q j) 53 #[.int .i64 1, .int .i64 2, .int .i64 y] /\ q j ≠ go /\ q j ≠ ge
 fr : Fr (fun z => z = go \/ z = ge) w5 W
theorem oneOut {w5 W : World} {B1 B2 go oc ge ec k i : Nat} {O : List Nat} {y : Int} {vals : List Value} {q : Nat -> Nat} (h : OneAt w5 W B1 B2 go oc ge ec k O y vals q i) (hi : i < k) :
  Own (W.setCell ⟨go, i, none⟩ (.int .i64 y)) B1 (sl go k oc) k (rowZ k fun j => if j < i + 1 then y else ((O.getD j 0 : Nat) : Int)) := by
  have := (h.outs.stored i y).1
  rw [rowZ_set] at this
  have e : (fun j => if j = i then y else if j < i then y else ((O.getD j 0 : Nat) : Int)) = (fun j => if j < i + 1 then y else ((O.getD j 0 : Nat) : Int)) := by
   funext j
   by_cases e : j = i
   ·rw [if_pos e, if_pos (by omega)]
   ·rw [if_neg e]
    by_cases g : j < i
    ·rw [if_pos g, if_pos (by omega)]
    ·rw [if_neg g, if_neg (by omega)]
  rw [e] at this
  exact this
structure OneMd (w5 W : World) (B1 B2 go oc ge ec k : Nat) (O : List Nat) (y : Int) (vals : List Value) (q : Nat -> Nat) (i : Nat) : Prop where
 outs : Own W B1 (sl go k oc) k (rowZ k fun j => if j < i + 1 then y else ((O.getD j 0 : Nat) : Int))
 news : ∀ j, j < i -> vals.getD j undef = sl (q j) 1 1 /\ Blk W (q j) 53 #[.int .i64 1, .int .i64 2, .int .i64 y] /\ q j ≠ go /\ q j ≠ ge
 fr : Fr (fun z => z = go \/ z = ge) w5 W
theorem OneAt.md {w5 W : World} {B1 B2 go oc ge ec k i : Nat} {O : List Nat} {y : Int} {vals : List Value} {q : Nat -> Nat} (h : OneAt w5 W B1 B2 go oc ge ec k O y vals q i) (hi : i < k) (hne : go ≠ ge) :
  OneMd w5 (W.setCell ⟨go, i, none⟩ (.int .i64 y)) B1 B2 go oc ge ec k O y vals q i /\ (W.setCell ⟨go, i, none⟩ (.int .i64 y)).ownsRow B2 42 1 (sl ge k ec) k vals := by
  have hf : Fr (fun z => z = go) W (W.setCell ⟨go, i, none⟩ (.int .i64 y)) := (Fr.refl (fun z => z = go) W).set_ (p := ⟨go, i, none⟩) (.inl rfl) _
  refine ⟨⟨oneOut h hi, fun j hj => ?_, h.fr.trans (hf.mono (fun z _ e => .inl e))⟩, rowFr h.rows hf (fun z hz e => by
   have : z = ge := by simpa [Value.ownBlock, eq_comm] using hz
   omega)⟩
  obtain ⟨h1, h2, h3, h4⟩ := h.news j hj
  exact ⟨h1, Blk.far h2 (p := ⟨go, i, none⟩) h3 _, h3, h4⟩
theorem oneStep {w5 V5 V1 : World} {B1 B2 go oc ge ec k i p1 : Nat} {O : List Nat} {y : Int} {vals : List Value} {q : Nat -> Nat} (h : OneMd w5 V5 B1 B2 go oc ge ec k O y vals q i) (hb : Below V5.heap.size V5 V1)
  (hr : V1.ownsRow B2 42 1 (sl ge k ec) k vals) (xb : Blk V1 p1 53 #[.int .i64 1, .int .i64 2, .int .i64 y]) (hp : V5.heap.size <= p1) (hi : i < k) (hg : go ≠ ge /\ go < V5.heap.size /\ ge < V5.heap.size) :
  ∃ vals' q', OneAt w5 (V1.setCell ⟨ge, i, none⟩ (sl p1 1 1)) B1 B2 go oc ge ec k O y vals' q' (i + 1) := by
  obtain ⟨g1, g2, g3⟩ := hg
  have hf : Fr (fun z => z = ge) V1 (V1.setCell ⟨ge, i, none⟩ (sl p1 1 1)) := (Fr.refl (fun z => z = ge) V1).set_ (p := ⟨ge, i, none⟩) (.inl rfl) _
  have hl : vals.length = k := by have := hr.1; omega
  refine ⟨vals.set i (sl p1 1 1), fun j => if j = i then p1 else q j, (h.outs.below_top hb).farN (m := 0) (p := ⟨ge, i, none⟩) g1 _, (World.ownsRow.stored hr i (sl p1 1 1)).1, fun j hj => ?_, ?_⟩
  ·by_cases e : j = i
   ·subst e
    rw [if_pos rfl]
    refine ⟨by simp [List.getD, hl, hi], Blk.far xb (p := ⟨ge, j, none⟩) (by show p1 ≠ ge; omega) _, by omega, by omega⟩
   ·rw [if_neg e]
    obtain ⟨h1, h2, h3, h4⟩ := h.news j (by omega)
    have e2 : (vals.set i (sl p1 1 1)).getD j undef = vals.getD j undef := by simp [List.getD, List.getElem?_set_ne (fun g => e g.symm)]
    rw [e2]
    exact ⟨h1, Blk.far (Blk.below h2 hb h2.lt) (p := ⟨ge, i, none⟩) h4 _, h3, h4⟩
  ·exact (h.fr.trans (Fr.of_below hb)).trans (hf.mono (fun z _ e => .inr e))
theorem OneAt.emit {w5 W : World} {B1 B2 go oc ge ec k : Nat} {O : List Nat} {y : Int} {vals : List Value} {q : Nat -> Nat} (h : OneAt w5 W B1 B2 go oc ge ec k O y vals q k) : EmitR W (sl ge k ec) (List.replicate k [(1, 2, y)]) := by
 have hl : vals.length = k := by have := h.rows.1; omega
 have h0 := h.rows
 have hc := World.ownsRow.lt h0
 rcases h0.2 with ⟨e, _⟩ | ⟨g, cap, cur, e, _, _, q1, q2, _⟩
 ·cases e
 ·simp only [Value.slice.injEq, Option.some.injEq, Addr.mk.injEq, and_true, true_and] at e
  obtain ⟨rfl, rfl⟩ := e
  refine ⟨_, _, by rw [List.length_replicate], by rw [List.length_replicate]; exact q1, q2, (fun e => by cases e), fun i hi => ?_⟩
  rw [List.length_replicate] at hi
  obtain ⟨h1, h2, -, -⟩ := h.news i hi
  have e2 : (List.replicate k ([(1, 2, y)] : List V3)).getD i [] = [(1, 2, y)] := by simp [List.getD, hi]
  rw [e2]
  refine ⟨ge, 0, sl (q i) 1 1, rfl, ?_, readsV_blk (1, 2, y) h2⟩
  rw [Nat.zero_add, World.ownsRow.cellAt h0 i (by omega), <- h1]
  simp [List.getD, List.getElem?_eq_getElem (show i < vals.length by omega)]
theorem OneAt.drew {w5 W : World} {B1 B2 go oc ge ec k i : Nat} {O : List Nat} {y : Int} {vals : List Value} {q : Nat -> Nat} (h : OneAt w5 W B1 B2 go oc ge ec k O y vals q i) : OneAt w5 W.drew B1 B2 go oc ge ec k O y vals q i :=
 ⟨h.outs, h.rows, h.news, h.fr.drew⟩
theorem keep2 {w wr : World} {go ge B : Nat} {e : TypeId} {s n : Nat} {u : Value} {xs : List Value} (hf : Fr (fun z => z = go \/ z = ge) w wr) (h : w.ownsRow B e s u n xs) (h1 : u.ownBlock ≠ some go) (h2 : u.ownBlock ≠ some ge) : wr.ownsRow B e s u n xs :=
 rowFr h hf (fun z hz e => e.elim (fun e => h1 (by rw [hz, e])) (fun e => h2 (by rw [hz, e])))
theorem ne_of_type {w : World} {B B' : Nat} {e e' : TypeId} {s s' n n' g c m : Nat} {u : Value} {xs ys : List Value} (h : w.ownsRow B e s u n xs) (h' : w.ownsRow B' e' s' (sl g m c) n' ys) (hne : e ≠ e') : u.ownBlock ≠ some g := fun q => rows_ne h h' hne g q rfl
theorem rows_all (k : Nat) (y : Int) (O : List Nat) (hy : 0 <= y) : (rowZ k fun j => if j < k then y else ((O.getD j 0 : Nat) : Int)) = intsN (List.replicate k y.toNat) := by
 apply List.ext_getElem
 ·simp [rowZ, intsN]
 ·intro i h1 h2
  have hi : i < k := by simpa [rowZ] using h1
  simp [rowZ, intsN, hi]
  omega
theorem ints_rowZ {O : List Nat} {k : Nat} (h : O.length = k) (y : Int) : intsN O = rowZ k fun j => if j < 0 then y else ((O.getD j 0 : Nat) : Int) := by
 subst h
 apply List.ext_getElem
 ·simp [rowZ, intsN]
 ·intro i h1 h2
  have hi : i < O.length := by simpa [intsN] using h1
  simp [rowZ, intsN, List.getD, List.getElem?_eq_getElem hi]
theorem rep_le {k : Nat} {y : Int} (h : y < 1000) (x : Nat) : (List.replicate k y.toNat).getD x 0 <= 9223372036854775807 := by
 rcases Nat.lt_or_ge x k with q | q
 ·have : (List.replicate k y.toNat).getD x 0 = y.toNat := by simp [List.getD, q]
  omega
 ·have : (List.replicate k y.toNat).getD x 0 = 0 := by simp [List.getD, q]
  omega
theorem in_one {y : Int} (h0 : 0 <= y) (h1 : y < 1000) (c : Nat) : In64 (atV (1, 2, y) c) := by
 unfold In64 atV
 split
 ·simp only; omega
 ·split <;> simp only <;> omega
theorem emits_in {k i : Nat} {y : Int} (h0 : 0 <= y) (h1 : y < 1000) (hi : i < k) : ∀ u ∈ (List.replicate k ([(1, 2, y)] : List V3)).getD i [], ∀ c, In64 (atV u c) := by
 intro u hu c
 have e : (List.replicate k ([(1, 2, y)] : List V3)).getD i [] = [(1, 2, y)] := by simp [List.getD, hi]
 rw [e] at hu
 obtain rfl : u = (1, 2, y) := by simpa using hu
 exact in_one h0 h1 c
theorem one_rep {α : Type} {T : List (List Nat)} {k r : Nat} {g : Nat -> α} {f : Nat -> Nat} (h : MachF T k g f r) (hg : ∀ x y, x < T.length -> y < T.length -> g x = g y) : repN T (EF f) = [0] /\ r = 1 := by
 have hE : ∀ x y, x < T.length -> y < T.length -> EF f x y = true := fun x y hx hy => by
  have := (h.kern x y hx hy).2 (fun w hw => hg _ _ (runN_lt h.rect w x hx hw) (runN_lt h.rect w y hy hw))
  simpa [EF] using this
 have hv : ∀ row : List Nat, (∀ x ∈ row, x < T.length) -> visitN (EF f) row [0] = [0] := by
  intro row
  induction row with
  | nil => intro _; rfl
  | cons t row ih =>
    intro ht
    rw [visitN_cons]
    have : addN (EF f) [0] t = [0] := by
     unfold addN
     rw [if_pos]
     simp [hE 0 t h.rect.pos (ht t (List.mem_cons_self ..))]
    rw [this]
    exact ih (fun x hx => ht x (List.mem_cons_of_mem _ hx))
 have hb : ∀ j, bfsN T (EF f) j = [0] := by
  intro j
  induction j with
  | zero => rfl
  | succ j ih =>
    cases hj : (bfsN T (EF f) j)[j]? with
    | none => rw [bfs_none hj, ih]
    | some s =>
      have hs := bfs_lt h.rect j s (List.mem_of_getElem? hj)
      rw [bfs_some hj, ih, hv _ (fun x hx => by
       obtain ⟨a, ha, rfl⟩ := row_mem h.rect hs hx
       exact h.rect.lt s a hs ha)]
 have e : repN T (EF f) = [0] := hb _
 exact ⟨e, by rw [<- h.len, e]; rfl⟩
theorem miniOne_walk (a0 : Int) (a1 : Int) (a2 : Option Addr) (len2 cap2 : Nat) (z2 : List Int) (a3 : Int) (w : World) (w0 : (Lit.int .i64 a0).wf = true) (w1 : (Lit.int .i64 a1).wf = true) (w2 : IsRow .i64 w a2 len2 cap2 z2) (w3 : (Lit.int .i64 a3).wf = true) :
  Calls Try.prog 10 #[.int .i64 a0, .int .i64 a1, .slice a2 len2 cap2, .int .i64 a3] w fun e w' => e = .returned (.bool true) /\ Below w.heap.size w w' := by
  have hk := kOf_is a0; have hn := nOf_is a1; have hk9 := kOf_lt a0; have hn9 := nOf_lt a1
  obtain ⟨k, ek⟩ : ∃ k, kOf a0 = k := ⟨_, rfl⟩
  obtain ⟨n, en⟩ : ∃ n, nOf a1 = n := ⟨_, rfl⟩
  rw [ek] at hk hk9
  rw [en] at hn hn9
  clear ek en
  obtain ⟨k0, k9⟩ := hk9
  obtain ⟨n0, n9⟩ := hn9
  have hT := law_rect (z2.take len2) (k := k) (n := n) k0
  have hTl := lawT_len (z2.take len2) k n
  have hOl := lawO_len (z2.take len2) k n
  have hO2 := lawO_lt (z2.take len2) k n
  obtain ⟨T, eT⟩ : ∃ T, lawT (z2.take len2) k n = T := ⟨_, rfl⟩
  obtain ⟨O, eO⟩ : ∃ O, lawO (z2.take len2) k n = O := ⟨_, rfl⟩
  rw [eT] at hT hTl
  rw [eO] at hOl hO2
  have RI := Lib.hid w2.readsI
  have HK := Lib.hid hk; have HN := Lib.hid hn; have HT := Lib.hid hT; have HTL := Lib.hid hTl; have HOL := Lib.hid hOl; have HO2 := Lib.hid hO2; have ET := Lib.hid eT; have EO := Lib.hid eO
  clear hk hn hT hTl hOl hO2 eT eO w0 w1 w2 w3
  have hy0 := Int.emod_nonneg a3 (show (1000 : Int) ≠ 0 by decide)
  have hy1 := Int.emod_lt_of_pos a3 (show (0 : Int) < 1000 by decide)
  obtain ⟨y, hy⟩ : ∃ y, a3 % 1000 = y := ⟨_, rfl⟩
  rw [hy] at hy0 hy1
  have HY := Lib.hid hy
  clear hy
  go_enter Try.func10, Try.ntmps10
  go_wp2_with fail
  refine (known_any _).mono ?_
  rintro e w1 ⟨rfl, hb⟩
  replace RI := Lib.hid (RI.out.below hb)
  have BB := Lib.hid hb
  clear hb
  have BBS := Lib.hid BB.out.size
  go_wp2_with fail
  refine (lawBack_ap RI.out a0 a1 HK.out HN.out).mono ?_
  rintro e w2 ⟨vn, vo, vb, rfl, hn, hr, ho, hb⟩
  have HNB := Lib.hid (hn)
  have HRB := Lib.hid (hr)
  have HOB := Lib.hid (ho)
  replace RI := Lib.hid (RI.out.below hb)
  replace BB := Lib.hid (BB.out.trans (hb.mono BB.out.size))
  rw [EO.out] at HOB
  rw [ET.out] at HRB
  have hNb : NextR w2 vn T := by rw [<- ET.out]; exact (lawLL hn hr).nextR (lawT_len _ _ _) (fun i hi => xssT_at _ hi)
  obtain ⟨NA, nc, e, l1, l2⟩ := hNb.form
  rw [HTL.out] at e l1
  subst e
  obtain ⟨go, oc, rfl, hgo1, hgo2, l3, -⟩ : ∃ go oc, vo = sl go k oc /\ w1.heap.size <= go /\ go < w2.heap.size /\ k <= oc /\ True := by
   rcases HOB.out.form with ⟨_, e, _⟩ | ⟨g, c, e, h1, h2, h3, _⟩
   ·omega
   ·exact ⟨g, c, e, h1, h2, h3, trivial⟩
  have l4 : oc <= 9223372036854775807 := by
   obtain ⟨_, _, e, _, h, -⟩ := HOB.out.readsI.form
   simp only [Value.slice.injEq, true_and] at e
   rw [e.2]; exact h
  have HSZ := Lib.hid BBS.out; have HSZ2 := Lib.hid hb.size
  clear hn hr ho hb hNb
  go_wp2_with fail
  refine (lawFwd_any RI.out a0 a1 HK.out HN.out).mono ?_
  rintro e w3 ⟨vm, ve, rfl, hn, ho, hb⟩
  have HNF := Lib.hid (hn)
  have HEF := Lib.hid (ho)
  replace BB := Lib.hid (BB.out.trans (hb.mono BB.out.size))
  rw [ET.out] at HNF
  have hNf : NextR w3 vm T := by rw [<- ET.out]; exact hn.nextR (lawT_len _ _ _) (fun i hi => xssT_at _ hi)
  obtain ⟨NF, nf, e, l5, l6⟩ := hNf.form
  rw [HTL.out] at e l5
  subst e
  obtain ⟨EA, ec, rfl, l7, l8⟩ := ho.form'
  obtain ⟨ge, rfl, hge⟩ : ∃ ge, EA = some ⟨ge, 0, none⟩ /\ w2.heap.size <= ge /\ ge < w3.heap.size := by
   rcases ho.form with ⟨e, e2, _⟩ | ⟨g, c, e, h1, h2, _⟩
   ·omega
   ·simp only [Value.slice.injEq, true_and] at e
    exact ⟨g, e.1, h1, h2⟩
  obtain ⟨hge1, hge2⟩ := hge
  obtain ⟨-, vals, hvr, -⟩ := ho
  have HVR := Lib.hid hvr
  have hne : go ≠ ge := by omega
  obtain ⟨W5, hW5⟩ : ∃ W, (w3.alloc (.cells #[.slice NA k nc, sl go k oc] 26)).alloc (.cells #[.slice NF k nf, sl ge k ec] 30) = W := ⟨_, rfl⟩
  have hb5 : Below w3.heap.size w3 W5 := by rw [<- hW5]; exact ((Below.refl _ _).alloc (Nat.le_refl _) _).alloc (by simp) _
  have hx9 : Blk W5 w3.heap.size 26 #[.slice NA k nc, sl go k oc] := by rw [<- hW5]; exact (Blk.new _ _ _).alloc _
  have hx10 : Blk W5 (w3.heap.size + 1) 30 #[.slice NF k nf, sl ge k ec] := by
   rw [<- hW5]
   have := Blk.new (w3.alloc (.cells #[.slice NA k nc, sl go k oc] 26)) 30 #[.slice NF k nf, sl ge k ec]
   rw [World.size_alloc] at this
   exact this
  obtain ⟨b9, hb9⟩ : ∃ b, b = w3.heap.size := ⟨_, rfl⟩
  obtain ⟨b10, hb10⟩ : ∃ b, b = w3.heap.size + 1 := ⟨_, rfl⟩
  rw [<- hb9] at hx9
  rw [<- hb10] at hx10
  have h35 := hb.trans (hb5.mono hb.size)
  have hROW : W5.ownsRow w2.heap.size 42 1 (sl ge k ec) k vals := ownsRow_bel hvr hb5
  have hst : OneAt W5 W5 w1.heap.size w2.heap.size go oc ge ec k O y vals (fun _ => 0) 0 := ⟨by rw [<- ints_rowZ HOL.out]; exact HOB.out.below_top h35, hROW, fun j hj => absurd hj (Nat.not_lt_zero j), Fr.refl _ _⟩
  have HST : Hid (∃ vals q, OneAt W5 W5 w1.heap.size w2.heap.size go oc ge ec k O y vals q 0) := Lib.hid ⟨_, _, hst⟩
  have HGO := Lib.hid (HOB.out.below_top h35); have HGE := Lib.hid hROW
  have HNB5 := Lib.hid (ownsRow_bel HNB.out h35)
  have HRB5 := Lib.hid (fun q (hq : q < k) => And.intro ((HRB.out q hq).1.below_top h35) (HRB.out q hq).2)
  have HNF5 := Lib.hid (HNF.out.below hb5)
  have HW5 := Lib.hid hW5; have X9 := Lib.hid hx9; have X10 := Lib.hid hx10; have HB9 := Lib.hid hb9; have HB10 := Lib.hid hb10
  have hgz : go < W5.heap.size /\ ge < W5.heap.size /\ go < b9 /\ ge < b9 /\ b9 < b10 /\ w.heap.size <= go /\ w.heap.size <= ge := by
   have h1 := hb5.size
   have h2 := hb.size
   have h3 : w.heap.size <= w1.heap.size := by have := HSZ.out; omega
   have h4 : w1.heap.size <= w2.heap.size := HSZ2.out
   omega
  obtain ⟨zz1, zz2, zz3, zz4, zz5, zz6, zz7⟩ := hgz
  have HGG := Lib.hid hgo2
  replace BB := Lib.hid (BB.out.trans (hb5.mono BB.out.size))
  clear hW5 hb5 hx9 hx10 hb9 hb10 h35 hROW hst hvr hb HNB HRB HNF HEF HOB HVR hn hNf hgo1 hge1 hge2 hgo2
  go_wp2_with fail
  rw [HW5.out, <- HB10.out, <- HB9.out]
  go_loopw [11] (fun vi wr => ∃ i : Nat, vi = .int .i64 (i : Int) /\ i <= k /\ Hid (∃ vals q, OneAt W5 wr w1.heap.size w2.heap.size go oc ge ec k O y vals q i)) (fun vi _ => k - (intOf vi).toNat)
  case atStart => exact ⟨0, rfl, Nat.zero_le _, HST⟩
  case round =>
   clear HST
   obtain ⟨i, rfl, hi, HJ⟩ := hrel
   obtain ⟨vals, q, hJ⟩ := HJ.out
   have i0 : (0 : Int) <= (i : Int) := Int.natCast_nonneg _
   have x9 := hJ.fr.blk X9.out (by omega)
   have x10 := hJ.fr.blk X10.out (by omega)
   have c90 := x9.cell 0; have c91 := x9.cell 1; have c100 := x10.cell 0; have c101 := x10.cell 1
   simp only [List.getElem?_toArray, List.getElem?_cons_zero, List.getElem?_cons_succ] at c90 c91 c100 c101
   have hzz := hJ.fr.size
   by_cases hlt : i < k
   ·have i1 : (i : Int) < (k : Int) := by omega
    have t1 : decide (i < k) = true := by simpa using hlt
    have hmd := hJ.drew.md hlt hne
    have kf := World.ownsRow.frozenAt hJ.drew.outs i
    obtain ⟨kv, kc⟩ : ∃ x, wr.drew.cell? ⟨go, i, none⟩ = some x := ⟨_, (World.ownsRow.cellAt hJ.drew.outs i (by omega)).trans (List.getElem?_eq_getElem (by simp [rowZ]; exact hlt))⟩
    have c101' : (wr.drew.setCell ⟨go, i, none⟩ (.int .i64 y)).cell? ⟨b10, 1, none⟩ = some (sl ge k ec) := by
     have := (Blk.far (Blk.drew x10) (p := ⟨go, i, none⟩) (by show b10 ≠ go; omega) (.int .i64 y)).cell 1
     simpa using this
    have hbg : go ≠ ge /\ go < (wr.drew.setCell ⟨go, i, none⟩ (.int .i64 y)).heap.size /\ ge < (wr.drew.setCell ⟨go, i, none⟩ (.int .i64 y)).heap.size := by
     have : (wr.drew.setCell ⟨go, i, none⟩ (.int .i64 y)).heap.size = wr.heap.size := by simp
     omega
    have HMD := Lib.hid hmd; have HS8 := Lib.hid c101'; have HBG := Lib.hid hbg
    clear hmd c101' hbg c90 c100 x9 x10 hJ
    go_wp2_with fail
    refine wp_region_still_tail 6 (by kernel_rfl) (by kernel_rfl) ?_
    simp only [List.take_succ_cons, List.take_zero, List.drop_succ_cons, List.drop_zero]
    repeat still_step
    still_call ((within_any a3 1000 (by decide) (by decide) _).mono fun e w' h => ⟨h.1, h.2.symm⟩)
    repeat still_step
    refine wpStill_nil ?_
    change wpList _ _ _ _ _ wr.drew
    clear c91 c101
    generalize wr.drew = W6 at *
    rw [HY.out]
    go_wp2_with fail
    obtain ⟨V5, hV5⟩ : ∃ V, W6.setCell ⟨go, i, none⟩ (.int .i64 y) = V := ⟨_, rfl⟩
    rw [hV5] at HMD HS8 HBG ⊢
    have HJ5 := Lib.hid HMD.out.1; have HV := Lib.hid HMD.out.2
    have HVL := Lib.hid (show vals.length = k by have := HV.out.1; omega)
    clear hV5 HMD kf kc HJ hzz
    refine region_y 8 (fun W : World => W.cell? ⟨b10, 1, none⟩ = some (sl ge k ec)) (by kernel_rfl) ?_
    have hb : Below V5.heap.size V5 V5.drew := (Below.refl _ _).drew
    have hS : (fun W : World => W.cell? ⟨b10, 1, none⟩ = some (sl ge k ec)) V5.drew := HS8.out
    generalize V5.drew = V0 at *
    refine tky (i := 0) (v := ?_) hS ?_ ?_
    rotate_left
    ·rintro w' s0'
     go_simp
     try with_reducible rfl
    try simp only [Act.put, zq1, zq2, zq3, zq4, zq5, zq6]
    refine tky (i := 1) (v := ?_) hS ?_ ?_
    rotate_left
    ·rintro w' s0'
     go_simp
     try with_reducible rfl
    try simp only [Act.put, zq1, zq2, zq3, zq4, zq5, zq6]
    refine tky (i := 2) (v := ?_) hS ?_ ?_
    rotate_left
    ·rintro w' s0'
     go_simp
     try with_reducible rfl
    try simp only [Act.put, zq1, zq2, zq3, zq4, zq5, zq6]
    refine tky (i := 3) (v := ?_) hS ?_ ?_
    rotate_left
    ·rintro w' s0'
     go_simp
     try with_reducible rfl
    try simp only [Act.put, zq1, zq2, zq3, zq4, zq5, zq6]
    refine anyY_g (i := 4) (by kernel_rfl) rfl rfl ?_
    intro K hK
    try simp only [zq1, zq2, zq3]
    refine wp_enterE #[.int .i64 a3, .int .i64 1000] Try.func23 (by kernel_rfl) (by kernel_rfl) ?_ (within_any a3 1000 (by decide) (by decide) V0) ?_
    ·go_simp
    rintro e w' ⟨rfl, rfl⟩
    rw [HY.out]
    refine ⟨_, rfl, ?_⟩
    refine hK _ _ hS ?_
    clear hK
    try simp only [Act.put, zq1, zq2, zq3, zq4, zq5, zq6]
    refine tky (i := 5) (v := ?_) hS ?_ ?_
    rotate_left
    ·rintro w' s0'
     go_simp
     try with_reducible rfl
    try simp only [Act.put, zq1, zq2, zq3, zq4, zq5, zq6]
    refine anyY_g (i := 6) (by kernel_rfl) rfl rfl ?_
    intro K hK
    try simp only [zq1, zq2, zq3]
    go_simp
    obtain ⟨V1, eV⟩ : ∃ W', V0.alloc (.cells #[.int .i64 1, .int .i64 2, .int .i64 y] 53) = W' := ⟨_, rfl⟩
    have hbn : Below V0.heap.size V0 V1 := by rw [<- eV]; exact (Below.refl _ _).alloc (Nat.le_refl _) _
    have xb : Blk V1 V0.heap.size 53 #[.int .i64 1, .int .i64 2, .int .i64 y] := by rw [<- eV]; exact Blk.new _ _ _
    rw [eV]
    clear eV
    replace hS : (fun W : World => W.cell? ⟨b10, 1, none⟩ = some (sl ge k ec)) V1 := bel_m hbn hS
    have hb2 := hb.trans (hbn.mono hb.size)
    obtain ⟨p1, hp1⟩ : ∃ p, p = V0.heap.size := ⟨_, rfl⟩
    have hp5 : V5.heap.size <= p1 := by rw [hp1]; exact hb.size
    rw [<- hp1] at xb ⊢
    clear hp1 hbn hb
    refine hK _ _ hS ?_
    clear hK
    try simp only [Act.put, zq1, zq2, zq3, zq4, zq5, zq6]
    refine tky (i := 7) (v := ?_) hS ?_ ?_
    rotate_left
    ·rintro w' s0'
     go_simp
     try with_reducible rfl
    try simp only [Act.put, zq1, zq2, zq3, zq4, zq5, zq6]
    have hx : V1.ownsRow w2.heap.size 42 1 (sl ge k ec) k vals := ownsRow_bel HV.out hb2
    have f1 := World.ownsRow.frozenAt hx i
    obtain ⟨kv, k1⟩ : ∃ x, V1.cell? ⟨ge, i, none⟩ = some x := ⟨_, (World.ownsRow.cellAt hx i (by omega)).trans (List.getElem?_eq_getElem (by rw [HVL.out]; exact hlt))⟩
    have HB2 := Lib.hid hb2; have HX := Lib.hid hx; have XB := Lib.hid xb
    clear hx hS xb hb2
    refine anyY_last (i := 8) (by kernel_rfl) (by kernel_rfl) (by kernel_rfl) rfl rfl ?_
    try simp only [zq1, zq2, zq3]
    go_simp
    try apply_assumption
    clear f1 k1
    go_wp2_with fail
    exact ⟨⟨i + 1, by go_num, by omega, Lib.hid (oneStep HJ5.out HB2.out HX.out XB.out hp5 hlt HBG.out)⟩, by simp [intOf]; omega⟩
   ·obtain rfl : k = i := by omega
    have hEM := hJ.emit
    have hO := hJ.outs.readsI
    rw [rows_all k y O hy0] at hO
    have hf := hJ.fr
    have hN9 : NextR wr (.slice NA k nc) T := by
     have hv := keep2 hf HNB5.out (ne_of_type HNB5.out HGO.out (by decide)) (ne_of_type HNB5.out HGE.out (by decide))
     have hr : ∀ q, q < k -> Own wr w1.heap.size (vb.getD q undef) n (intsN ((lawT (z2.take len2) k n).getD q [])) /\ Apart (sl go k oc) (vb.getD q undef) := fun q hq => by
      rw [ET.out]
      obtain ⟨h1, h2⟩ := HRB5.out q hq
      exact ⟨keep2 hf h1 h2.ne (ne_of_type h1 HGE.out (by decide)), h2⟩
     have := (lawLL hv hr).nextR (lawT_len _ _ _) (fun i hi => xssT_at _ hi)
     rw [ET.out] at this
     exact this
    have hNf : NextR wr (.slice NF k nf) T := by
     obtain ⟨g1, vf, g2, g3⟩ := HNF5.out
     have : OwnLL wr w2.heap.size 22 3 1 (.slice NF k nf) k (xssT T k) := ⟨g1, vf, keep2 hf g2 (ne_of_type g2 HGO.out (by decide)) (ne_of_type g2 HGE.out (by decide)), fun i hi => ⟨keep2 hf (g3 i hi).1 (fun e => by
      have := ((g3 i hi).1.lt go e).1
      have := HGG.out
      omega) (ne_of_type (g3 i hi).1 HGE.out (by decide)), (g3 i hi).2⟩⟩
     exact this.nextR HTL.out (fun i hi => xssT_at T hi)
    have hbw := BB.out.trans (hf.below (B := w.heap.size) (by have := BB.out.size; omega) (fun q hq e => by omega))
    have RNB := Lib.hid hN9; have RNF := Lib.hid hNf; have ROB := Lib.hid hO; have REF := Lib.hid hEM
    replace BB := Lib.hid hbw
    have X9 := Lib.hid x9; have X10 := Lib.hid x10
    clear hN9 hNf hO hEM hbw hf hJ HJ x9 x10 HNB5 HRB5 HNF5 HGO HGE
    have c90 := X9.out.cell 0; have c91 := X9.out.cell 1
    simp only [List.getElem?_toArray, List.getElem?_cons_zero, List.getElem?_cons_succ] at c90 c91
    go_wp2_with fail
    clear c90 c91
    refine (back_mach RNB.out HTL.out HT.out ROB.out (by omega) (by omega) (rep_le hy1)).mono ?_
    rintro e w4 ⟨NB, nd, OB, od, gn, f, r, rfl, hM, hQ, hQO, hNM, l9, l10, l11, l12, hb⟩
    have RQO := Lib.hid (hQO)
    have RM := Lib.hid (hNM)
    replace RNF := Lib.hid (RNF.out.below hb)
    replace REF := Lib.hid (REF.out.below hb)
    replace BB := Lib.hid (BB.out.trans (hb.mono BB.out.size))
    replace X9 := Lib.hid (Blk.below X9.out hb X9.out.lt)
    replace X10 := Lib.hid (Blk.below X10.out hb X10.out.lt)
    obtain ⟨er, e1⟩ := one_rep hM (fun x y hx hy => by rw [HTL.out] at hx hy; simp [List.getD, hx, hy])
    subst e1
    have eo : quoO T f (List.replicate k y.toNat) = [y.toNat] := by unfold quoO; rw [er]; simp [List.getD, k0]
    rw [eo] at RQO
    obtain ⟨g2, o2, e2, -, co⟩ := RQO.out.at 0 (by decide)
    subst e2
    obtain ⟨g3, o3, e3, -, cm⟩ := RM.out.at 0 k0
    simp only [sl, Option.some.injEq, Addr.mk.injEq, and_true] at e3
    obtain ⟨rfl, rfl⟩ := e3
    rw [rowZ_get _ k0, name_zero (EF.eqv f), Nat.add_zero] at cm
    have ey : (intsN [y.toNat]).getD 0 0 = y := by simp [intsN]; omega
    rw [ey, Nat.add_zero] at co
    have CO := Lib.hid co; have CM := Lib.hid cm
    clear hM hQ hQO hNM hb er eo ey co cm RQO RM
    obtain ⟨b12, hb12⟩ : ∃ b, b = w4.heap.size := ⟨_, rfl⟩
    obtain ⟨V12, hV12⟩ : ∃ V, w4.alloc (.cells #[.slice NB 1 nd, .slice (some ⟨g2, o2, none⟩) 1 od] 26) = V := ⟨_, rfl⟩
    have hb' : Below w4.heap.size w4 V12 := by rw [<- hV12]; exact (Below.refl _ _).alloc (Nat.le_refl _) _
    have x' : Blk V12 b12 26 #[.slice NB 1 nd, .slice (some ⟨g2, o2, none⟩) 1 od] := by rw [<- hV12, hb12]; exact Blk.new _ _ _
    replace RNF := Lib.hid (RNF.out.below hb')
    replace REF := Lib.hid (REF.out.below hb')
    replace X9 := Lib.hid (Blk.below X9.out hb' X9.out.lt)
    replace X10 := Lib.hid (Blk.below X10.out hb' X10.out.lt)
    replace BB := Lib.hid (BB.out.trans (hb'.mono BB.out.size))
    have Xb12 := Lib.hid x'
    have HV12 := Lib.hid hV12; have Eb12 := Lib.hid hb12
    clear hb' x' hV12 hb12
    have co := keep_alloc CO.out (.cells #[.slice NB 1 nd, .slice (some ⟨g2, o2, none⟩) 1 od] 26)
    have cm := keep_alloc CM.out (.cells #[.slice NB 1 nd, .slice (some ⟨g2, o2, none⟩) 1 od] 26)
    rw [HV12.out] at co cm
    replace CO := Lib.hid co; replace CM := Lib.hid cm
    clear co cm
    have c100 := X10.out.cell 0; have c101 := X10.out.cell 1
    simp only [List.getElem?_toArray, List.getElem?_cons_zero, List.getElem?_cons_succ] at c100 c101
    rw [<- HV12.out] at c100 c101
    go_wp2_with fail
    rw [HV12.out, <- Eb12.out]
    clear c100 c101
    refine (fwd_mach (q := 1) RNF.out HTL.out HT.out REF.out (by simp) (fun i hi => by simp [List.getD, hi]) (by omega) (fun i hi => emits_in hy0 hy1 hi) (by omega) (by omega)).mono ?_
    rintro e w6 ⟨NC, ne, OC, oe, gm, f2, r2, rfl, hM, hQ, hQO, hNM, l13, l14, l15, l16, hb⟩
    have RM := Lib.hid (hNM)
    replace BB := Lib.hid (BB.out.trans (hb.mono BB.out.size))
    replace X9 := Lib.hid (Blk.below X9.out hb X9.out.lt)
    replace X10 := Lib.hid (Blk.below X10.out hb X10.out.lt)
    replace Xb12 := Lib.hid (Blk.below Xb12.out hb Xb12.out.lt)
    replace CO := Lib.hid (bel_m hb CO.out); replace CM := Lib.hid (bel_m hb CM.out)
    obtain ⟨er, e1⟩ := one_rep hM (fun x y hx hy => by rw [HTL.out] at hx hy; simp [List.getD, hx, hy])
    subst e1
    obtain ⟨g4, o4, e4, -, cn⟩ := RM.out.at 0 k0
    simp only [sl, Option.some.injEq, Addr.mk.injEq, and_true] at e4
    obtain ⟨rfl, rfl⟩ := e4
    rw [rowZ_get _ k0, name_zero (EF.eqv f2), Nat.add_zero] at cn
    have CN := Lib.hid cn
    clear hM hQ hQO hNM hb er cn RM
    obtain ⟨b14, hb14⟩ : ∃ b, b = w6.heap.size := ⟨_, rfl⟩
    obtain ⟨V14, hV14⟩ : ∃ V, w6.alloc (.cells #[.slice NC 1 ne, .slice OC 1 oe] 30) = V := ⟨_, rfl⟩
    have hb' : Below w6.heap.size w6 V14 := by rw [<- hV14]; exact (Below.refl _ _).alloc (Nat.le_refl _) _
    have x' : Blk V14 b14 30 #[.slice NC 1 ne, .slice OC 1 oe] := by rw [<- hV14, hb14]; exact Blk.new _ _ _
    replace X9 := Lib.hid (Blk.below X9.out hb' X9.out.lt)
    replace X10 := Lib.hid (Blk.below X10.out hb' X10.out.lt)
    replace Xb12 := Lib.hid (Blk.below Xb12.out hb' Xb12.out.lt)
    replace BB := Lib.hid (BB.out.trans (hb'.mono BB.out.size))
    have Xb14 := Lib.hid x'
    have HV14 := Lib.hid hV14; have Eb14 := Lib.hid hb14
    clear hb' x' hV14 hb14
    have co := keep_alloc CO.out (.cells #[.slice NC 1 ne, .slice OC 1 oe] 30)
    have cm := keep_alloc CM.out (.cells #[.slice NC 1 ne, .slice OC 1 oe] 30)
    have cn := keep_alloc CN.out (.cells #[.slice NC 1 ne, .slice OC 1 oe] 30)
    go_wp2_with fail
    rw [HV14.out] at co cm cn ⊢
    rw [<- Eb14.out]
    have c90 := X9.out.cell 0; have c100 := X10.out.cell 0; have c120 := Xb12.out.cell 0; have c121 := Xb12.out.cell 1; have c140 := Xb14.out.cell 0
    simp only [List.getElem?_toArray, List.getElem?_cons_zero, List.getElem?_cons_succ] at c90 c100 c120 c121 c140
    have HWI : Hid (∀ V, Calls Try.prog 23 #[.int .i64 a3, .int .i64 1000] V fun e w' => e = .returned (.int .i64 y) /\ w' = V) := Lib.hid (fun V => by
     rw [<- HY.out]
     exact (within_any a3 1000 (by decide) (by decide) V).mono fun e w' h => ⟨h.1, h.2.symm⟩)
    go_quiet ((go_at_call 23; exact Calls.quiet_of_same (HWI.out _)))
    go_wp2_with fail
    go_ret
    exact ⟨by simp, below_drewN BB.out _⟩
end Go.Proofs.Ytdcokkgdahbinaa
