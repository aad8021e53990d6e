/- The memory of an order; newOrder, order.number. -/
import Derived.Test.YtdcokkgdahbinaaVMiniB
set_option linter.unusedVariables false
set_option linter.unusedSimpArgs false
set_option maxRecDepth 100000
set_option maxHeartbeats 8000000
namespace Go.Proofs.Ytdcokkgdahbinaa
open Go Go.RowKit Go.Proofs
def intsN (l : List Nat) : List Int := l.map Int.ofNat
def numsN (n : Nat) (M : List Nat) : List Int := (List.range n).map fun x => if x ∈ M then (M.idxOf x : Int) else -1
theorem numsN_len (n : Nat) (M : List Nat) : (numsN n M).length = n := by simp [numsN]
theorem numsN_nil (n : Nat) : numsN n [] = List.replicate n (-1) := by
 apply List.ext_getElem
 ·simp [numsN]
 ·intro i h1 h2; simp [numsN]
theorem numsN_get {n : Nat} {M : List Nat} {x : Nat} (hx : x < n) : (numsN n M).getD x 0 = if x ∈ M then (M.idxOf x : Int) else -1 := by simp [numsN, hx]
theorem numsN_set {n : Nat} {M : List Nat} {x : Nat} (hx : x ∉ M) : (numsN n M).set x (M.length : Int) = numsN n (M ++ [x]) := by
 apply List.ext_getElem
 ·simp [numsN]
 ·intro i h1 h2
  have hi : i < n := by simpa [numsN] using h2
  simp only [numsN, List.getElem_set, List.getElem_map, List.getElem_range]
  by_cases e : x = i
  ·subst e
   rw [if_pos rfl, if_pos (by simp), List.idxOf_append, if_neg hx]
   simp
  ·rw [if_neg e]
   by_cases q : i ∈ M
   ·rw [if_pos q, if_pos (by simp [q]), List.idxOf_append, if_pos q]
   ·rw [if_neg q, if_neg (by simp [q]; exact fun r => e r.symm)]
def metL (M : List Nat) (x : Nat) : List Nat := if x ∈ M then M else M ++ [x]
theorem metL_mem (M : List Nat) (x : Nat) : x ∈ metL M x := by unfold metL; split <;> simp_all
theorem metL_eq (M : List Nat) (x : Nat) : metL M x = addN eqN M x := by
 unfold metL addN
 by_cases h : x ∈ M
 ·rw [if_pos h, if_pos (List.any_eq_true.2 ⟨x, h, by simp [eqN]⟩)]
 ·rw [if_neg h, if_neg]
  intro q
  obtain ⟨u, hu, e⟩ := List.any_eq_true.1 q
  have : u = x := by simpa [eqN] using e
  exact h (by rw [<- this]; exact hu)
theorem metL_nodup {M : List Nat} (h : M.Nodup) (x : Nat) : (metL M x).Nodup := by
 unfold metL
 split
 ·exact h
 ·rename_i q
  exact List.nodup_append.2 ⟨h, by simp, fun a ha b hb e => by
   have : b = x := by simpa using hb
   subst this; subst e; exact q ha⟩
structure OrdAt (w : World) (B b : Nat) (mv : Value) (gn n : Nat) (M : List Nat) : Prop where
 box : Blk w b 91 #[mv, sl gn n n]
 met : Own w B mv M.length (intsN M)
 nums : Own w B (sl gn n n) n (numsN n M)
 bn : b ≠ gn
 bm : mv.ownBlock ≠ some b
 mn : mv.ownBlock ≠ some gn
 bB : B <= b
section
variable {w w' : World} {B b gn n : Nat} {mv : Value} {M : List Nat}
theorem OrdAt.keep {X : Nat -> Prop} (h : OrdAt w B b mv gn n M) (hf : Fr X w w') (hb : ¬ X b) (hg : ¬ X gn) (hm : ∀ k, mv.ownBlock = some k -> ¬ X k) : OrdAt w' B b mv gn n M where
 box := hf.blk h.box hb
 met := hf.own h.met hm
 nums := hf.own h.nums (fun k hk => by
  have : gn = k := by simpa [Value.ownBlock] using hk
  subst this; exact hg)
 bn := h.bn
 bm := h.bm
 mn := h.mn
 bB := h.bB
theorem OrdAt.bel (h : OrdAt w B b mv gn n M) (hb : Below w.heap.size w w') : OrdAt w' B b mv gn n M := h.keep (Fr.of_below (X := fun _ => False) hb) id id (fun _ _ => id)
def OrdX (b gn : Nat) (mv : Value) (k : Nat) : Prop := k = b \/ k = gn \/ mv.ownBlock = some k
theorem OrdAt.lt (h : OrdAt w B b mv gn n M) : ∀ k, OrdX b gn mv k -> B <= k /\ k < w.heap.size := by
 intro k hk
 rcases hk with rfl | rfl | hk
 ·exact ⟨h.bB, h.box.lt⟩
 ·exact h.nums.lt _ rfl
 ·exact h.met.lt _ hk
end
theorem newOrder_any (N : Nat) (hN : N <= 1000) (w : World) :
  Calls Try.prog 52 #[.int .i64 (N : Int)] w fun e w' => ∃ g, e = .returned (.agg #[.slice none 0 0, sl g N N]) /\ w.heap.size <= g /\ Own w' w.heap.size (sl g N N) N (numsN N []) /\ Below w.heap.size w w' := by
  have HR := Lib.hid (fun W => noneOf_any N hN W)
  obtain ⟨W0, hW0⟩ : ∃ W0, w.alloc (.cells #[.slice none 0 0, .slice none 0 0] 91) = W0 := ⟨_, rfl⟩
  have hb0 : Below w.heap.size w W0 := by rw [<- hW0]; exact (Below.refl _ _).alloc (Nat.le_refl _) _
  have hx0 : Blk W0 w.heap.size 91 #[.slice none 0 0, .slice none 0 0] := by rw [<- hW0]; exact Blk.new _ _ _
  have hz0 : w.heap.size < W0.heap.size := hx0.lt
  have HW0 := Lib.hid hW0; have HB0 := Lib.hid hb0; have HX0 := Lib.hid hx0
  clear hW0 hb0 hx0
  go_enter Try.func52, Try.ntmps52
  go_wp2_with fail
  rw [HW0.out]
  refine (HR.out W0).mono ?_
  rintro e w1 ⟨g, rfl, hg, ho, hb⟩
  have HB1 := Lib.hid (HB0.out.trans (hb.mono (Nat.le_of_lt hz0)))
  have HO := Lib.hid (ho.more (Nat.le_of_lt hz0))
  have hx1 := Blk.below HX0.out hb hz0
  have HX1 := Lib.hid hx1
  have r0 := Blk.cell hx1 0; have r1 := Blk.cell hx1 1
  have fr0 := Blk.frozen hx1 0; have fr1 := Blk.frozen hx1 1
  simp only [List.getElem?_toArray, List.getElem?_cons_zero, List.getElem?_cons_succ] at r0 r1
  have hne : ¬ w.heap.size = g := by omega
  have hz1 := hb.size
  clear hb ho hx1
  go_wp2_with fail
  refine bodyPost_ret (v := .agg #[.slice none 0 0, sl g N N]) (by simp [results, Try.results52, go_sem, r0, r1]) rfl ?_
  have e1 : numsN N [] = List.replicate N (-1) := numsN_nil N
  rw [e1]
  exact ⟨g, rfl, by omega, own_set (own_set HO.out (p := ⟨w.heap.size, 0, none⟩) (fun e => hne (by simpa [Value.ownBlock] using e.symm)) _) (p := ⟨w.heap.size, 1, none⟩) (fun e => hne (by simpa [Value.ownBlock] using e.symm)) _,
   ((HB1.out.setCell (p := ⟨w.heap.size, 0, none⟩) (Nat.le_refl _) _).setCell (p := ⟨w.heap.size, 1, none⟩) (Nat.le_refl _) _)⟩
theorem number_cell {w : World} {B gn n x m : Nat} {M : List Nat} (h : Own w B (sl gn n n) n (numsN n (M ++ [x]))) (hx : x ∉ M) (hxn : x < n) (hm : M.length = m) : w.cell? ⟨gn, x, none⟩ = some (.int .i64 (m : Int)) := by
 rcases h.form with ⟨e, _⟩ | ⟨g', c', e, _, _, _, hc⟩
 ·cases e
 ·simp only [Value.slice.injEq, Option.some.injEq, Addr.mk.injEq, and_true, true_and] at e
  obtain ⟨rfl, rfl⟩ := e
  have := hc x hxn
  rw [Nat.zero_add, numsN_get hxn, if_pos (by simp), List.idxOf_append, if_neg hx] at this
  simp only [List.idxOf_cons_self, Nat.zero_add, hm] at this
  exact this
theorem number_any {w : World} {B b gn n : Nat} {mv : Value} {M : List Nat} {x : Nat} (h : OrdAt w B b mv gn n M) (hx : x < n) (hn : n <= 1000) (hl : M.length <= 1000) (hBw : B <= w.heap.size) :
  Calls Try.prog 55 #[.pointer (some ⟨b, 0, none⟩), .int .i64 (x : Int)] w fun e w' => e = .returned (.int .i64 ((metL M x).idxOf x : Nat)) /\ ∃ mv', OrdAt w' B b mv' gn n (metL M x) /\ Fr (OrdX b gn mv) w w' /\ (mv'.ownBlock = mv.ownBlock \/ ∃ k, mv'.ownBlock = some k /\ w.heap.size <= k) := by
  have b0 := h.box.cell 0
  have b1 := h.box.cell 1
  simp only [List.getElem?_toArray, List.getElem?_cons_zero, List.getElem?_cons_succ] at b0 b1
  have x0 : (0 : Int) <= (x : Int) := Int.natCast_nonneg _
  have x1 : (x : Int) < (n : Int) := by omega
  have tx : decide (x < n) = true := by simpa using hx
  have hgt := numsN_get (M := M) hx
  have hc : w.cell? ⟨gn, x, none⟩ = some (.int .i64 ((numsN n M).getD x 0)) := by
   rcases h.nums.form with ⟨e, _⟩ | ⟨g', c', e, _, _, _, hc⟩
   ·cases e
   ·simp only [Value.slice.injEq, Option.some.injEq, Addr.mk.injEq, and_true, true_and] at e
    obtain ⟨rfl, rfl⟩ := e
    have := hc x hx
    rwa [Nat.zero_add] at this
  rw [hgt] at hc
  by_cases hm : x ∈ M
  ·rw [if_pos hm] at hc
   have hne : ¬ ((M.idxOf x : Nat) : Int) = -1 := by omega
   have e1 : metL M x = M := if_pos hm
   have HH := Lib.hid h; have E1 := Lib.hid e1
   clear h e1 hm hgt
   rw [E1.out]
   generalize M.idxOf x = k at *
   go_enter Try.func55, Try.ntmps55
   go_wp2_with fail
   go_ret
   exact ⟨rfl, mv, HH.out, Fr.refl _ _, .inl rfl⟩
  ·rw [if_neg hm] at hc
   have e1 : metL M x = M ++ [x] := if_neg hm
   have HH := Lib.hid h; have E1 := Lib.hid e1; have HM := Lib.hid hm
   have fz := h.nums.frozen x
   obtain ⟨c1, c2, -, c4⟩ := h.nums.capN
   unfold maxLen at c2
   have hform : ∃ A c, mv = .slice A M.length c /\ M.length <= c /\ c <= 9223372036854775807 := by
    obtain ⟨A, c, e, q1, q2, _⟩ := h.met.readsI.form
    exact ⟨A, c, e, q1, q2⟩
   obtain ⟨MA, mc, hmv, hmc, hmc2⟩ := hform
   have HMV := Lib.hid hmv
   clear h e1 hm hgt
   rw [HMV.out] at b0
   have HS : Hid (OrdAt w B b mv gn n M) := HH
   obtain ⟨m, hmm⟩ : ∃ m, M.length = m := ⟨_, rfl⟩
   have HMM := Lib.hid hmm
   rw [hmm] at b0 hmc hl
   clear hmm hmv
   obtain ⟨W1, hW1⟩ : ∃ W1, (w.setCell ⟨gn, x, none⟩ (.int .i64 (m : Int))).drew = W1 := ⟨_, rfl⟩
   have HN1 : Hid (Own W1 B (sl gn n n) n (numsN n (M ++ [x]))) := Lib.hid (by
    rw [<- hW1, <- numsN_set HM.out, HMM.out]
    exact Own.drew (HH.out.nums.stored x (m : Int)).1)
   have HB1 : Hid (Blk W1 b 91 #[.slice MA m mc, sl gn n n]) := Lib.hid (by
    have := HH.out.box
    rw [HMV.out, HMM.out] at this
    rw [<- hW1]; exact Blk.drew (this.far (p := ⟨gn, x, none⟩) HH.out.bn _))
   have HO1 : Hid (Own W1 B (.slice MA m mc) m (intsN M)) := Lib.hid (by
    have := HH.out.met
    have hne := HH.out.mn
    rw [HMV.out, HMM.out] at this hne
    rw [<- hW1]; exact Own.drew (own_set this (p := ⟨gn, x, none⟩) hne _))
   have HF1 : Hid (Fr (OrdX b gn mv) w W1) := Lib.hid (by rw [<- hW1]; exact ((Fr.refl _ w).set_ (p := ⟨gn, x, none⟩) (.inl (.inr (.inl rfl))) _).drew)
   have HBM : Hid ((Value.slice MA m mc).ownBlock ≠ some b /\ (Value.slice MA m mc).ownBlock ≠ some gn) := Lib.hid (by
    have h1 := HH.out.bm; have h2 := HH.out.mn
    rw [HMV.out, HMM.out] at h1 h2
    exact ⟨h1, h2⟩)
   have HMV2 : Hid (mv = .slice MA m mc) := Lib.hid (by rw [HMV.out, HMM.out])
   have d0 : W1.cell? ⟨b, 0, none⟩ = some (.slice MA m mc) := by have := HB1.out.cell 0; simpa using this
   have d1 : W1.cell? ⟨b, 1, none⟩ = some (sl gn n n) := by have := HB1.out.cell 1; simpa using this
   have hm9 : m <= 1000000000 := by omega
   have hbs : B <= W1.heap.size := Nat.le_trans hBw HF1.out.size
   have HW1 := Lib.hid hW1
   have hbg : ¬ b = gn := HH.out.bn
   have hgb : ¬ gn = b := fun e => hbg e.symm
   clear hW1
   go_enter Try.func55, Try.ntmps55
   go_wp2_with fail
   go_region
   rw [HW1.out]
   clear hc b0 b1 fz HW1
   go_wp2_with (at_builtin; refine wpList_push rfl (.tmp 28) (.tmp 30) rfl B W1 (.slice MA m mc) m (intsN M) (x : Int) (by rfl) HO1.out (by rfl) hm9 hbs ?_; intro g9 cap9 w9 hp9; have HP := Lib.hid hp9; clear hp9; have HX9 := Lib.hid (Blk.grown (Blk.alloc HB1.out (.cells #[.int .i64 (x : Int)] 3)) HP.out.grow (fun e => HBM.out.1 e.symm)); have k0 : w9.cell? ⟨b, 0, none⟩ = some (.slice MA m mc) := (by have := HX9.out.cell 0; simpa using this); have k1 : w9.cell? ⟨b, 1, none⟩ = some (sl gn n n) := (by have := HX9.out.cell 1; simpa using this); have kf := HX9.out.frozen 0; have HN9 := Lib.hid ((HN1.out.alloc (.cells #[.int .i64 (x : Int)] 3)).kept HP.out.grow (.inr (fun e => HBM.out.2 e.symm))); have k2 : w9.cell? ⟨gn, x, none⟩ = some (.int .i64 (m : Int)) := number_cell HN9.out HM.out hx HMM.out)
   go_ret
   rw [E1.out]
   have hblk : (sl g9 (m + 1) cap9).ownBlock = some g9 := rfl
   have hat : g9 = b -> False := fun e => by
    rcases HP.out.at_ with q | q
    ·exact HBM.out.1 (by rw [q, e])
    ·have := HB1.out.lt; omega
   have hat2 : g9 = gn -> False := fun e => by
    rcases HP.out.at_ with q | q
    ·exact HBM.out.2 (by rw [q, e])
    ·have := (HN1.out.lt gn rfl).2; omega
   have hnat : (Value.slice MA m mc).ownBlock = some g9 \/ w.heap.size <= g9 := by
    rcases HP.out.at_ with q | q
    ·exact .inl q
    ·have := HF1.out.size; exact .inr (by omega)
   refine ⟨?_, sl g9 (m + 1) cap9, ⟨?_, ?_, ?_, hbg, fun e => hat (by simpa [Value.ownBlock] using e), fun e => hat2 (by simpa [Value.ownBlock] using e), HH.out.bB⟩, ?_, ?_⟩
   ·rw [List.idxOf_append, if_neg HM.out]
    simp [HMM.out]
   ·have := HX9.out.set_ 0 (sl g9 (m + 1) cap9)
    simpa using this
   ·have h1 := own_set HP.out.own (p := ⟨b, 0, none⟩) (fun e => hat (by simpa [Value.ownBlock] using e)) (sl g9 (m + 1) cap9)
    have e2 : intsN M ++ [(x : Int)] = intsN (M ++ [x]) := by simp [intsN]
    rw [e2] at h1
    have e3 : (M ++ [x]).length = m + 1 := by simp [HMM.out]
    rw [e3]
    exact h1
   ·exact own_set HN9.out (p := ⟨b, 0, none⟩) (fun e => hgb (by simpa [Value.ownBlock] using e)) _
   ·have h1 : Fr (OrdX b gn mv) w w9 := (HF1.out.alloc (.cells #[.int .i64 (x : Int)] 3)).then_ (Fr.of_grown (X := fun k => mv.ownBlock = some k) HP.out.grow (fun k hk => by rw [HMV2.out]; exact hk)) (fun k _ hk => .inr (.inr hk))
    exact h1.set_ (p := ⟨b, 0, none⟩) (.inl (.inl rfl)) _
   ·rcases hnat with q | q
    ·exact .inl (by rw [HMV2.out, q]; rfl)
    ·exact .inr ⟨g9, rfl, q⟩
end Go.Proofs.Ytdcokkgdahbinaa
