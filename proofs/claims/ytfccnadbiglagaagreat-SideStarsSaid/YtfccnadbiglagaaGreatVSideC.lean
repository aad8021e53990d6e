/- The maker's memory: a position made, positions linked. The maker's memory: positions linked. -/
import Derived.Test.YtfccnadbiglagaaGreatVSideB
import Derived.Test.YtfccnadbiglagaaGreatVTrop
import Derived.Test.YtfccnadbiglagaaGreatVSideA
import Derived.Below
import Derived.OneCell
set_option linter.unusedVariables false
set_option linter.unusedSimpArgs false
set_option maxRecDepth 100000
set_option maxHeartbeats 8000000
namespace Go.Proofs.YtfccnadbiglagaaGreat
open Go Go.RowKit Go.Proofs
theorem CostsAt.keep {w w' : World} {B T N : Nat} {cv : Value} {g0 o0 cc : Nat} {R : Nat -> Nat} {M : Mat} (h : CostsAt w B T N cv g0 o0 cc R M) (h0 : 0 < N -> ∀ i x, w.cell? ⟨g0, i, none⟩ = some x -> w'.cell? ⟨g0, i, none⟩ = some x) (hR : ∀ i, i < N -> w'.heap[R i]? = w.heap[R i]?) : CostsAt w' B T N cv g0 o0 cc R M where
 form := h.form
 low := h.low
 cells := fun i hi => h0 (by omega) _ _ (h.cells i hi)
 rows := h.rows
 apart := h.apart
 at_ := fun i hi => (hR i hi).trans (h.at_ i hi)
theorem FrM.set {B T : Nat} {w w1 : World} {sv sv' : Value} (h : FrM B T w w1 sv sv') {p : Addr} (h1 : B <= p.block) (h2 : p.block < T) (u : Value) : FrM B T w (w1.setCell p u) sv sv' where
 below := h.below.setCell h1 u
 size := by simpa using h.size
 top := h.top
 keep := fun g h3 h4 h5 => by rw [Below.heap_setCell w1 p u g (by omega)]; exact h.keep g h3 h4 h5
 own := h.own
theorem pos_any {w : World} {B T b N : Nat} {sv : Value} {S : List Int} {cv : Value} {g0 o0 cc : Nat} {R : Nat -> Nat} {dv rv : Value} {M : Mat} (h : MkAt w B T b N sv S cv g0 o0 cc R dv rv M) (x : Int) (hS : S.length < N) :
  Calls Tryz.prog 105 #[.pointer (some ⟨b, 0, none⟩), .int .i64 x] w fun e w' => ∃ sv', e = .returned (.int .i64 (S.length : Nat)) /\ MkAt w' B T b N sv' (S ++ [x]) cv g0 o0 cc R dv rv M /\ FrM B T w w' sv sv' := by
  have hbox := h.box
  have b0 := Blk.cell hbox 0
  simp only [List.getElem?_toArray, List.getElem?_cons_zero, List.getElem?_cons_succ] at b0
  have f0 := Blk.frozen hbox 0
  have hown := h.sets
  have hsm := h.small
  obtain ⟨n, hn⟩ : ∃ n, S.length = n := ⟨_, rfl⟩
  rw [hn] at hown hS ⊢
  have hlt := hbox.lt
  have hbT := h.bB
  have htop := h.top
  have hne : some b ≠ sv.ownBlock := fun e => by have := (hown.lt b e.symm).1; omega
  obtain ⟨A, c, hform⟩ : ∃ A c, sv = .slice A n c := by
   rcases hown.form with ⟨rfl, rfl, _⟩ | ⟨g, cap, rfl, _⟩
   ·exact ⟨_, _, rfl⟩
   ·exact ⟨_, _, rfl⟩
  subst hform
  have H := Lib.hid h; have HO := Lib.hid hown; have HN := Lib.hid hn
  clear h hbox hown hn
  go_enter Tryz.func105, Tryz.ntmps105
  go_wp2_with (at_builtin; refine wpList_push rfl (.tmp 9) (.tmp 11) rfl T w (.slice A n c) n S x (by rfl) HO.out (by rfl) (by omega) htop ?_; intro g cap w1 hp; have HP := Lib.hid hp; have c0 := hp.cell b0 hlt hne; have c1 : w1.frozen? ⟨b, 0, none⟩ = false := Blk.frozen (Blk.grown (Blk.alloc H.out.box _) hp.grow hne) 0; clear hp)
  go_ret
  have hp := HP.out
  have h := H.out
  have hbx : Blk w1 b 83 #[.slice A n c, cv, dv, rv] := Blk.grown (Blk.alloc h.box _) hp.grow hne
  have hown1 := hp.own
  have hFr : FrM B T w w1 (.slice A n c) (.slice (some ⟨g, 0, none⟩) (n + 1) cap) := ⟨hp.below (Below.refl _ _) (by omega) (by omega), hp.size, h.top, fun g' h1 h2 h3 => by
    rw [hp.grow.block g' (by simp; omega) (fun e => h3 e.symm), Below.heap_alloc w _ g' h2], fun g' hg' => by
    have e : g = g' := by simpa [Value.ownBlock] using hg'
    subst e
    rcases hp.at_ with q | q
    ·exact .inl q
    ·exact .inr (by omega)⟩
  have hk : ∀ g', g' < T -> g' ≠ b -> (w1.setCell ⟨b, 0, none⟩ (.slice (some ⟨g, 0, none⟩) (n + 1) cap)).heap[g']? = w.heap[g']? := fun g' h1 h2 => by
   rw [Below.heap_setCell w1 _ _ g' (fun e => h2 e), hp.grow.block g' (by simp; omega) (fun e => by have := (HO.out.lt g' e.symm).1; omega), Below.heap_alloc w _ g' (by omega)]
  refine ⟨.slice (some ⟨g, 0, none⟩) (n + 1) cap, ?_, ⟨?_, h.bB, h.bg, h.bR, ?_, ?_, h.small, ?_, ?_⟩, hFr.set (p := ⟨b, 0, none⟩) hbT.1 hbT.2 _⟩
  ·rfl
  ·have := Blk.set_ hbx 0 (.slice (some ⟨g, 0, none⟩) (n + 1) cap)
   simpa using this
  ·have := hFr.size; simp; omega
  ·rw [List.length_append, HN.out]
   exact ownsRow_setCell_below hown1 (a := ⟨b, 0, none⟩) hbT.2 _
  ·rw [List.length_append, HN.out]; simp; omega
  ·refine h.costs.keep (fun h0 i y hy => ?_) (fun i hi => hk _ (h.costs.rows i hi).2.1 (fun e => h.bR i hi e.symm))
   rw [cell_of_heap (hk g0 (h.costs.low h0).2 (fun e => h.bg h0 e.symm))]
   exact hy
end Go.Proofs.YtfccnadbiglagaaGreat
namespace Go.Proofs.YtfccnadbiglagaaGreat
open Go Go.RowKit Go.Proofs
theorem sadd_any (a b : Int) (w : World) (ha : CostC a) (hb : CostC b) : Calls Tryz.prog 101 #[.int .i64 a, .int .i64 b] w fun e w' => e = .returned (.int .i64 (plC a b)) /\ w = w' := add_any a b w ha hb
theorem least_two {x y : Int} (hx : CostC x) : least [x, y] = mnC x y := by
 obtain ⟨h0, h1⟩ := hx
 unfold least mnC
 simp only [List.foldl_cons, List.foldl_nil]
 by_cases h : x < 1152921504606846976
 ·rw [if_pos h]
 ·rw [if_neg h]
  have e : x = 1152921504606846976 := by omega
  rw [e]
theorem smin_any (x y : Int) (H : Nat) (w : World) (hx : CostC x) (h0 : w.cell? ⟨H, 0, none⟩ = some (.int .i64 x)) (h1 : w.cell? ⟨H, 1, none⟩ = some (.int .i64 y)) :
  Calls Tryz.prog 100 #[.slice (some ⟨H, 0, none⟩) 2 2] w fun e w' => e = .returned (.int .i64 (mnC x y)) /\ w = w' := by
  have h := min_any [x, y] 2 2 H 0 w rfl (by omega) (fun i hi => by
   rcases Nat.lt_or_ge i 1 with q | q
   ·obtain rfl : i = 0 := by omega
    exact h0
   ·obtain rfl : i = 1 := by omega
    exact h1)
  rw [least_two hx] at h
  exact h
theorem MkAt.bel {w : World} {B T b N : Nat} {sv : Value} {S : List Int} {cv : Value} {g0 o0 cc : Nat} {R : Nat -> Nat} {dv rv : Value} {M : Mat} {w' : World} (h : MkAt w B T b N sv S cv g0 o0 cc R dv rv M) (hb : Below w.heap.size w w') : MkAt w' B T b N sv S cv g0 o0 cc R dv rv M where
 box := Blk.below h.box hb h.box.lt
 bB := h.bB
 bg := h.bg
 bR := h.bR
 top := Nat.le_trans h.top hb.size
 sets := h.sets.below_top hb
 small := h.small
 fits := h.fits
 costs := h.costs.keep (fun _ i x hx => by rw [hb.cell (p := ⟨g0, i, none⟩) (World.block_lt_of_cell? w _ hx)]; exact hx) (fun i hi => hb.block _ (Nat.lt_of_lt_of_le (h.costs.rows i hi).2.1 h.top))
theorem MkAt.setM {w : World} {B T b N : Nat} {sv : Value} {S : List Int} {cv : Value} {g0 o0 cc : Nat} {R : Nat -> Nat} {dv rv : Value} {M : Mat} (h : MkAt w B T b N sv S cv g0 o0 cc R dv rv M) {i j : Nat} (hi : i < N) (hj : j < N) (x : Int) : MkAt (w.setCell ⟨R i, j, none⟩ (.int .i64 x)) B T b N sv S cv g0 o0 cc R dv rv (updM M i j x) where
 box := Blk.far h.box (p := ⟨R i, j, none⟩) (h.bR i hi) _
 bB := h.bB
 bg := h.bg
 bR := h.bR
 top := by simpa using h.top
 sets := ownsRow_setCell_below h.sets (a := ⟨R i, j, none⟩) (h.costs.rows i hi).2.1 _
 small := h.small
 fits := h.fits
 costs := by
  refine ⟨h.costs.form, h.costs.low, fun k hk => ?_, h.costs.rows, h.costs.apart, fun k hk => ?_⟩
  ·rw [cell_of_heap (Below.heap_setCell w ⟨R i, j, none⟩ _ g0 (fun e => (h.costs.rows i hi).2.2 e.symm))]
   exact h.costs.cells k hk
  ·by_cases e : k = i
   ·subst e
    have h1 := Blk.set_ (h.costs.at_ k hk) j (.int .i64 x)
    rw [List.setIfInBounds_toArray, rowM_set] at h1
    exact h1
   ·rw [rowM_other N M i k j x e]
    exact Blk.far (h.costs.at_ k hk) (p := ⟨R i, j, none⟩) (fun q => e (h.costs.apart k i hk hi q)) _
def Doors (k : Nat) (l : List (Int × Int)) : Prop := ∀ d ∈ l, (∃ i : Nat, d.1 = i /\ i < k) /\ CostC d.2
theorem doorsOf_doors (l : List Int) (hl : ∀ x ∈ l, CostC x) : ∀ (o k : Nat), o + l.length <= k -> Doors k (doorsOf o l) := by
 induction l with
 | nil => intro o k h d hd; cases hd
 | cons x l ih =>
   intro o k h d hd
   have hx := hl x (by simp)
   have ih' := ih (fun y hy => hl y (by simp [hy])) (o + 1) k (by simp at h; omega)
   simp only [doorsOf] at hd
   split at hd
   ·rcases List.mem_cons.1 hd with rfl | hd
    ·exact ⟨⟨o, rfl, by simp at h; omega⟩, hx⟩
    ·exact ih' d hd
   ·exact ih' d hd
theorem linkR_cost {M : Mat} (hM : ∀ x y, CostC (M x y)) {e : Int × Int} (he : CostC e.2) {k : Nat} : ∀ {F : List (Int × Int)}, Doors k F -> ∀ x y, CostC (linkR M e F x y) := by
 intro F
 induction F generalizing M with
 | nil => intro _; exact hM
 | cons f F ih =>
   intro hF
   rw [linkR_cons]
   refine ih (fun x y => ?_) (fun d hd => hF d (by simp [hd]))
   unfold updM
   split
   ·exact mnC_is (hM _ _) (plC_is he (hF f (by simp)).2)
   ·exact hM _ _
theorem linkM_cost {M : Mat} (hM : ∀ x y, CostC (M x y)) {k : Nat} {F : List (Int × Int)} (hF : Doors k F) : ∀ {E : List (Int × Int)}, Doors k E -> ∀ x y, CostC (linkM M E F x y) := by
 intro E
 induction E generalizing M with
 | nil => intro _; exact hM
 | cons e E ih =>
   intro hE
   rw [linkM_cons]
   exact ih (linkR_cost hM (hE e (by simp)).2 hF) (fun d hd => hE d (by simp [hd]))
theorem DoorsV.at_ {w : World} {S : Nat -> Prop} {A : Option Addr} {n c : Nat} {l : List (Int × Int)} (h : DoorsV w S (.slice A n c) l) (i : Nat) (hi : i < l.length) : ∃ g o, A = some ⟨g, o, none⟩ /\ w.cell? ⟨g, o + i * 2, none⟩ = some (.int .i64 (l[i]).1) /\ w.cell? ⟨g, o + i * 2 + 1, none⟩ = some (.int .i64 (l[i]).2) := by
 obtain ⟨-, A', n', c', e, hr, -⟩ := h
 injection e with e1 e2 e3
 subst e1; subst e2; subst e3
 obtain ⟨g, o, rfl, -, hc⟩ := hr.at encD_len (by omega) i (l[i]) (List.getElem?_eq_getElem hi)
 have h0 := hc 0 _ rfl
 rw [Nat.add_zero] at h0
 exact ⟨g, o, rfl, h0, hc 1 _ rfl⟩
theorem bel_q {w w' : World} (h : Below w.heap.size w w') {g i : Nat} {x : Value} (hc : w.cell? ⟨g, i, none⟩ = some x) : w'.cell? ⟨g, i, none⟩ = some x := by
 rw [h.cell (p := ⟨g, i, none⟩) (World.block_lt_of_cell? w _ hc)]; exact hc
theorem take_snoc_ {α : Type} (l : List α) (i : Nat) (hi : i < l.length) : l.take (i + 1) = l.take i ++ [l[i]] := List.take_succ_eq_append_getElem hi
theorem link_any {w : World} {B T b N : Nat} {sv : Value} {S : List Int} {cv : Value} {g0 o0 cc : Nat} {R : Nat -> Nat} {dv rv : Value} {M : Mat} (h : MkAt w B T b N sv S cv g0 o0 cc R dv rv M) (E F : List (Int × Int)) (ve vf : Value) (hE : DoorsV w (Left_ T sv) ve E) (hF : DoorsV w (Left_ T sv) vf F) (hE2 : Doors N E) (hF2 : Doors N F) (hM : ∀ x y, CostC (M x y)) :
  Calls Tryz.prog 106 #[.pointer (some ⟨b, 0, none⟩), ve, vf] w fun e w' => e = .returned (.tuple #[]) /\ MkAt w' B T b N sv S cv g0 o0 cc R dv rv (linkM M E F) /\ FrM B T w w' sv sv := by
  have hE0 := hE; have hF0 := hF
  obtain ⟨EA, ec, rfl, hec, hec2, hen⟩ := hE.form
  obtain ⟨FA, fc, rfl, hfc, hfc2, hfn⟩ := hF.form
  obtain ⟨ne, hne⟩ : ∃ n, E.length = n := ⟨_, rfl⟩
  obtain ⟨nf, hnf⟩ : ∃ n, F.length = n := ⟨_, rfl⟩
  rw [hne] at hE0 hec hen ⊢
  rw [hnf] at hF0 hfc hfn ⊢
  have hFr0 : FrM B T w w sv sv := FrM.refl h.top (Nat.le_trans (Nat.le_of_lt (Nat.lt_of_le_of_lt h.bB.1 h.bB.2)) h.top)
  have hsm := h.small
  have HN := Lib.hid h.bB; have HE := Lib.hid hE0; have HF := Lib.hid hF0; have HNE := Lib.hid hne; have HNF := Lib.hid hnf; have HM0 := Lib.hid h; have HFr0 := Lib.hid hFr0; have HE2 := Lib.hid hE2; have HF2 := Lib.hid hF2; have HMC := Lib.hid hM
  clear h hE hF hE0 hF0 hne hnf hFr0 hE2 hF2 hM
  go_enter Tryz.func106, Tryz.ntmps106
  go_wp2_with fail
  go_loopg [12] ne (fun gk vi wr => ∃ i : Nat, vi = .int .i64 i /\ gk = ne - i /\ i <= ne /\ Hid (FrM B T w wr sv sv) /\ Hid (MkAt wr B T b N sv S cv g0 o0 cc R dv rv (linkM M (E.take i) F)))
  case atStart => exact ⟨0, rfl, rfl, Nat.zero_le _, HFr0, Lib.hid HM0.out⟩
  case round =>
   clear HFr0
   obtain ⟨i, rfl, hgk, hi, HFR, HMK⟩ := hrel
   have HGK := Lib.hid hgk; clear hgk
   have i0 : (0 : Int) <= (i : Int) := Int.natCast_nonneg _
   by_cases hlt : i < ne
   ·have i1 : (i : Int) < (ne : Int) := by omega
    have hl : i < E.length := by rw [HNE.out]; exact hlt
    have hEw := HE.out.fr HFR.out
    obtain ⟨ge, oe, hEA, e0, e1⟩ := hEw.at_ i hl
    obtain ⟨⟨p, hp, hpN⟩, hcc⟩ := HE2.out (E[i]) (List.getElem_mem hl)
    obtain ⟨c, hc⟩ : ∃ c, (E[i]).2 = c := ⟨_, rfl⟩
    rw [hp] at e0
    rw [hc] at e1 hcc
    subst hEA
    have HEI := Lib.hid (show E[i] = ((p : Int), c) from Prod.ext hp hc)
    have HCE := Lib.hid hcc
    clear hEw hp hc hcc
    go_wp2_with fail
    obtain ⟨W1, hW1⟩ : ∃ W1, wr.alloc (.cells #[.int .i64 p, .int .i64 c] 123) = W1 := ⟨_, rfl⟩
    have hb1 : Below wr.heap.size wr W1 := by rw [<- hW1]; exact (Below.refl _ _).alloc (Nat.le_refl _) _
    have hx1 : Blk W1 wr.heap.size 123 #[.int .i64 p, .int .i64 c] := by rw [<- hW1]; exact Blk.new _ _ _
    have hHT : T <= wr.heap.size := HMK.out.top
    have hFr1 : FrM B T w W1 sv sv := HFR.out.trans (FrM.quiet hb1 hHT (Nat.le_trans (Nat.le_of_lt (Nat.lt_of_le_of_lt HN.out.1 HN.out.2)) hHT))
    have hMk1 := HMK.out.bel hb1
    have hown1 : sv.ownBlock ≠ some wr.heap.size := fun e => by have := (HMK.out.sets.lt _ e).2; omega
    rw [hW1]
    obtain ⟨He, hHe⟩ : ∃ H, wr.heap.size = H := ⟨_, rfl⟩
    rw [hHe] at hx1 hHT hown1 ⊢
    obtain ⟨M1, hM1⟩ : ∃ M1, linkM M (E.take i) F = M1 := ⟨_, rfl⟩
    rw [hM1] at hMk1
    have hMC1 : ∀ x y, CostC (M1 x y) := by rw [<- hM1]; exact linkM_cost HMC.out HF2.out (fun d hd => HE2.out d (List.mem_of_mem_take hd))
    have HM1 := Lib.hid hM1; have HX1 := Lib.hid hx1; have HFr1 := Lib.hid hFr1; have HMk1 := Lib.hid hMk1; have HOW := Lib.hid hown1; have HHT := Lib.hid hHT; have HMC1 := Lib.hid hMC1
    have hFrr : FrM B T W1 W1 sv sv := FrM.refl hMk1.top (Nat.le_trans (Nat.le_of_lt (Nat.lt_of_le_of_lt HN.out.1 HN.out.2)) hMk1.top)
    have HFrr := Lib.hid hFrr
    clear hW1 hb1 hx1 hFr1 hMk1 hHe hM1 hown1 hHT hFrr e0 e1 hMC1
    go_wp2_with fail
    go_loopg [18] nf (fun gk2 vj wr2 => ∃ j : Nat, vj = .int .i64 j /\ gk2 = nf - j /\ j <= nf /\ Hid (FrM B T W1 wr2 sv sv) /\ Hid (MkAt wr2 B T b N sv S cv g0 o0 cc R dv rv (linkR M1 ((p : Int), c) (F.take j))))
    case atStart => exact ⟨0, rfl, rfl, Nat.zero_le _, HFrr, Lib.hid HMk1.out⟩
    case round =>
     clear HFrr
     obtain ⟨j, rfl, hgk2, hj, HFR2, HMK2⟩ := hrel
     have HGK2 := Lib.hid hgk2; clear hgk2
     have j0 : (0 : Int) <= (j : Int) := Int.natCast_nonneg _
     by_cases hlt2 : j < nf
     ·have j1 : (j : Int) < (nf : Int) := by omega
      have hl2 : j < F.length := by rw [HNF.out]; exact hlt2
      have hFw := HF.out.fr (HFr1.out.trans HFR2.out)
      obtain ⟨gf, of_, hFA, f0, f1⟩ := hFw.at_ j hl2
      obtain ⟨⟨q, hq, hqN⟩, hcd⟩ := HF2.out (F[j]) (List.getElem_mem hl2)
      obtain ⟨d, hd⟩ : ∃ d, (F[j]).2 = d := ⟨_, rfl⟩
      rw [hq] at f0
      rw [hd] at f1 hcd
      subst hFA
      have HFI := Lib.hid (show F[j] = ((q : Int), d) from Prod.ext hq hd)
      have HCF := Lib.hid hcd
      clear hFw hq hd hcd
      go_wp2_with fail
      obtain ⟨W2, hW2⟩ : ∃ W2, wr.alloc (.cells #[.int .i64 q, .int .i64 d] 123) = W2 := ⟨_, rfl⟩
      have hb2 : Below wr.heap.size wr W2 := by rw [<- hW2]; exact (Below.refl _ _).alloc (Nat.le_refl _) _
      have hx2 : Blk W2 wr.heap.size 123 #[.int .i64 q, .int .i64 d] := by rw [<- hW2]; exact Blk.new _ _ _
      have hMk2 := HMK2.out.bel hb2
      have hFr2 : FrM B T W1 W2 sv sv := HFR2.out.trans (FrM.quiet hb2 HMK2.out.top (Nat.le_trans (Nat.le_of_lt (Nat.lt_of_le_of_lt HN.out.1 HN.out.2)) HMK2.out.top))
      have hx1 : Blk W2 He 123 #[.int .i64 p, .int .i64 c] := (hFr2.keep He HHT.out HX1.out.lt HOW.out).trans HX1.out
      rw [hW2]
      obtain ⟨Hf, hHf⟩ : ∃ H, wr.heap.size = H := ⟨_, rfl⟩
      rw [hHf] at hx2 ⊢
      obtain ⟨M2, hM2⟩ : ∃ M2, linkR M1 ((p : Int), c) (F.take j) = M2 := ⟨_, rfl⟩
      rw [hM2] at hMk2
      have hrow := hMk2.costs.at_ p hpN
      obtain ⟨m, hm⟩ : ∃ m, M2 p q = m := ⟨_, rfl⟩
      have hmc : CostC m := by rw [<- hm, <- hM2]; exact linkR_cost HMC1.out HCE.out (k := N) (fun x hx => HF2.out x (List.mem_of_mem_take hx)) p q
      have hcv : cv = .slice (some ⟨g0, o0, none⟩) N cc /\ N <= cc /\ cc <= maxLen := by
       rcases hMk2.costs.form with ⟨e, _⟩ | ⟨_, e, e2⟩
       ·omega
       ·exact ⟨e, e2⟩
      obtain ⟨hcv, hcc1, hcc2⟩ := hcv
      unfold maxLen at hcc2
      have k0 := Blk.cell hMk2.box 1
      simp only [List.getElem?_toArray, List.getElem?_cons_zero, List.getElem?_cons_succ] at k0
      rw [hcv] at k0
      have k1 := hMk2.costs.cells p hpN
      have k2 := Blk.cell hrow q
      rw [List.getElem?_toArray, rowM_at N M2 p q hqN, hm] at k2
      have k3 := Blk.cell hx1 0; have k4 := Blk.cell hx1 1; have k5 := Blk.cell hx2 0; have k6 := Blk.cell hx2 1
      simp only [List.getElem?_toArray, List.getElem?_cons_zero, List.getElem?_cons_succ] at k3 k4 k5 k6
      have hks : ∀ W : World, Below W2.heap.size W2 W -> (fun w' : World => w'.cell? ⟨b, 1, none⟩ = some (.slice (some ⟨g0, o0, none⟩) N cc) /\ w'.cell? ⟨g0, o0 + p, none⟩ = some (.slice (some ⟨R p, 0, none⟩) N N) /\ w'.cell? ⟨R p, q, none⟩ = some (.int .i64 m) /\ w'.cell? ⟨He, 0, none⟩ = some (.int .i64 p) /\ w'.cell? ⟨He, 1, none⟩ = some (.int .i64 c) /\ w'.cell? ⟨Hf, 0, none⟩ = some (.int .i64 q) /\ w'.cell? ⟨Hf, 1, none⟩ = some (.int .i64 d)) W := fun W hW => ⟨bel_q hW k0, bel_q hW k1, bel_q hW k2, bel_q hW k3, bel_q hW k4, bel_q hW k5, bel_q hW k6⟩
      have HKS := Lib.hid hks; have HROW := Lib.hid hrow; have HCM := Lib.hid hmc; have HMk2 := Lib.hid hMk2; have HFr2 := Lib.hid hFr2; have HMV := Lib.hid hm; have HM2 := Lib.hid hM2
      have p0 : (0 : Int) <= (p : Int) := Int.natCast_nonneg _
      have p1 : (p : Int) < (N : Int) := by omega
      have q0 : (0 : Int) <= (q : Int) := Int.natCast_nonneg _
      have q1 : (q : Int) < (N : Int) := by omega
      clear hks hrow hmc hMk2 hFr2 hm hM2 k0 k1 k2 k3 k4 k5 k6 hx1 hx2 hb2 hW2 hHf hcv f0 f1
      go_wp2_with fail
      refine region_x 30 (fun w' : World => w'.cell? ⟨b, 1, none⟩ = some (.slice (some ⟨g0, o0, none⟩) N cc) /\ w'.cell? ⟨g0, o0 + p, none⟩ = some (.slice (some ⟨R p, 0, none⟩) N N) /\ w'.cell? ⟨R p, q, none⟩ = some (.int .i64 m) /\ w'.cell? ⟨He, 0, none⟩ = some (.int .i64 p) /\ w'.cell? ⟨He, 1, none⟩ = some (.int .i64 c) /\ w'.cell? ⟨Hf, 0, none⟩ = some (.int .i64 q) /\ w'.cell? ⟨Hf, 1, none⟩ = some (.int .i64 d)) (by kernel_rfl) ?_
      have hS := HKS.out _ (Below.refl _ _).drew
      refine tkx (i := 0) (v := ?_) hS ?_ ?_
      rotate_left
      ·rintro w' ⟨c0, c1, c2, c3, c4, c5, c6⟩
       go_simp
       try with_reducible rfl
      try simp only [Act.put, zq1, zq2, zq3, zq4, zq5, zq6]
      refine tkx (i := 1) (v := ?_) hS ?_ ?_
      rotate_left
      ·rintro w' ⟨c0, c1, c2, c3, c4, c5, c6⟩
       go_simp
       try with_reducible rfl
      try simp only [Act.put, zq1, zq2, zq3, zq4, zq5, zq6]
      refine tkx (i := 2) (v := ?_) hS ?_ ?_
      rotate_left
      ·rintro w' ⟨c0, c1, c2, c3, c4, c5, c6⟩
       go_simp
       try with_reducible rfl
      try simp only [Act.put, zq1, zq2, zq3, zq4, zq5, zq6]
      refine tkx (i := 3) (v := ?_) hS ?_ ?_
      rotate_left
      ·rintro w' ⟨c0, c1, c2, c3, c4, c5, c6⟩
       go_simp
       try with_reducible rfl
      try simp only [Act.put, zq1, zq2, zq3, zq4, zq5, zq6]
      refine tkx (i := 4) (v := ?_) hS ?_ ?_
      rotate_left
      ·rintro w' ⟨c0, c1, c2, c3, c4, c5, c6⟩
       go_simp
       try with_reducible rfl
      try simp only [Act.put, zq1, zq2, zq3, zq4, zq5, zq6]
      refine tkx (i := 5) (v := ?_) hS ?_ ?_
      rotate_left
      ·rintro w' ⟨c0, c1, c2, c3, c4, c5, c6⟩
       go_simp
       try with_reducible rfl
      try simp only [Act.put, zq1, zq2, zq3, zq4, zq5, zq6]
      refine tkx (i := 6) (v := ?_) hS ?_ ?_
      rotate_left
      ·rintro w' ⟨c0, c1, c2, c3, c4, c5, c6⟩
       go_simp
       try with_reducible rfl
      try simp only [Act.put, zq1, zq2, zq3, zq4, zq5, zq6]
      refine tkx (i := 7) (v := ?_) hS ?_ ?_
      rotate_left
      ·rintro w' ⟨c0, c1, c2, c3, c4, c5, c6⟩
       go_simp
       try with_reducible rfl
      try simp only [Act.put, zq1, zq2, zq3, zq4, zq5, zq6]
      refine tkx (i := 8) (v := ?_) hS ?_ ?_
      rotate_left
      ·rintro w' ⟨c0, c1, c2, c3, c4, c5, c6⟩
       go_simp
       try with_reducible rfl
      try simp only [Act.put, zq1, zq2, zq3, zq4, zq5, zq6]
      refine tkx (i := 9) (v := ?_) hS ?_ ?_
      rotate_left
      ·rintro w' ⟨c0, c1, c2, c3, c4, c5, c6⟩
       go_simp
       try with_reducible rfl
      try simp only [Act.put, zq1, zq2, zq3, zq4, zq5, zq6]
      refine tkx (i := 10) (v := ?_) hS ?_ ?_
      rotate_left
      ·rintro w' ⟨c0, c1, c2, c3, c4, c5, c6⟩
       go_simp
       try with_reducible rfl
      try simp only [Act.put, zq1, zq2, zq3, zq4, zq5, zq6]
      refine tkx (i := 11) (v := ?_) hS ?_ ?_
      rotate_left
      ·rintro w' ⟨c0, c1, c2, c3, c4, c5, c6⟩
       go_simp
       try with_reducible rfl
      try simp only [Act.put, zq1, zq2, zq3, zq4, zq5, zq6]
      refine tkx (i := 12) (v := ?_) hS ?_ ?_
      rotate_left
      ·rintro w' ⟨c0, c1, c2, c3, c4, c5, c6⟩
       go_simp
       try with_reducible rfl
      try simp only [Act.put, zq1, zq2, zq3, zq4, zq5, zq6]
      refine tkx (i := 13) (v := ?_) hS ?_ ?_
      rotate_left
      ·rintro w' ⟨c0, c1, c2, c3, c4, c5, c6⟩
       go_simp
       try with_reducible rfl
      try simp only [Act.put, zq1, zq2, zq3, zq4, zq5, zq6]
      refine tkx (i := 14) (v := ?_) hS ?_ ?_
      rotate_left
      ·rintro w' ⟨c0, c1, c2, c3, c4, c5, c6⟩
       go_simp
       try with_reducible rfl
      try simp only [Act.put, zq1, zq2, zq3, zq4, zq5, zq6]
      refine tkx (i := 15) (v := ?_) hS ?_ ?_
      rotate_left
      ·rintro w' ⟨c0, c1, c2, c3, c4, c5, c6⟩
       go_simp
       try with_reducible rfl
      try simp only [Act.put, zq1, zq2, zq3, zq4, zq5, zq6]
      refine tkx (i := 16) (v := ?_) hS ?_ ?_
      rotate_left
      ·rintro w' ⟨c0, c1, c2, c3, c4, c5, c6⟩
       go_simp
       try with_reducible rfl
      try simp only [Act.put, zq1, zq2, zq3, zq4, zq5, zq6]
      refine tkx (i := 17) (v := ?_) hS ?_ ?_
      rotate_left
      ·rintro w' ⟨c0, c1, c2, c3, c4, c5, c6⟩
       go_simp
       try with_reducible rfl
      try simp only [Act.put, zq1, zq2, zq3, zq4, zq5, zq6]
      refine tkx (i := 18) (v := ?_) hS ?_ ?_
      rotate_left
      ·rintro w' ⟨c0, c1, c2, c3, c4, c5, c6⟩
       go_simp
       try with_reducible rfl
      try simp only [Act.put, zq1, zq2, zq3, zq4, zq5, zq6]
      refine tkx (i := 19) (v := ?_) hS ?_ ?_
      rotate_left
      ·rintro w' ⟨c0, c1, c2, c3, c4, c5, c6⟩
       go_simp
       try with_reducible rfl
      try simp only [Act.put, zq1, zq2, zq3, zq4, zq5, zq6]
      refine tkx (i := 20) (v := ?_) hS ?_ ?_
      rotate_left
      ·rintro w' ⟨c0, c1, c2, c3, c4, c5, c6⟩
       go_simp
       try with_reducible rfl
      try simp only [Act.put, zq1, zq2, zq3, zq4, zq5, zq6]
      refine tkx (i := 21) (v := ?_) hS ?_ ?_
      rotate_left
      ·rintro w' ⟨c0, c1, c2, c3, c4, c5, c6⟩
       go_simp
       try with_reducible rfl
      try simp only [Act.put, zq1, zq2, zq3, zq4, zq5, zq6]
      refine tkx (i := 22) (v := ?_) hS ?_ ?_
      rotate_left
      ·rintro w' ⟨c0, c1, c2, c3, c4, c5, c6⟩
       go_simp
       try with_reducible rfl
      try simp only [Act.put, zq1, zq2, zq3, zq4, zq5, zq6]
      refine tkx (i := 23) (v := ?_) hS ?_ ?_
      rotate_left
      ·rintro w' ⟨c0, c1, c2, c3, c4, c5, c6⟩
       go_simp
       try with_reducible rfl
      try simp only [Act.put, zq1, zq2, zq3, zq4, zq5, zq6]
      refine tkx (i := 24) (v := ?_) hS ?_ ?_
      rotate_left
      ·rintro w' ⟨c0, c1, c2, c3, c4, c5, c6⟩
       go_simp
       try with_reducible rfl
      try simp only [Act.put, zq1, zq2, zq3, zq4, zq5, zq6]
      refine tkx (i := 25) (v := ?_) hS ?_ ?_
      rotate_left
      ·rintro w' ⟨c0, c1, c2, c3, c4, c5, c6⟩
       go_simp
       try with_reducible rfl
      try simp only [Act.put, zq1, zq2, zq3, zq4, zq5, zq6]
      refine anyX_g (i := 26) (by kernel_rfl) (by decide) rfl (by rfl) ?_
      intro K hK
      try simp only [zq1, zq2, zq3]
      refine wp_enterE #[.int .i64 c, .int .i64 d] Tryz.func101 (by kernel_rfl) (by kernel_rfl) ?_ (sadd_any c d _ HCE.out HCF.out) ?_
      ·go_simp
      rintro e w1 ⟨rfl, rfl⟩
      refine ⟨_, rfl, ?_⟩
      refine hK _ _ hS ?_
      clear hK
      try simp only [Act.put, zq1, zq2, zq3, zq4, zq5, zq6]
      refine anyX_g (i := 27) (by kernel_rfl) (by decide) rfl (by rfl) ?_
      intro K hK
      try simp only [zq1, zq2, zq3]
      go_simp
      obtain ⟨V, hV⟩ : ∃ V, (W2.alloc (.cells #[.int .i64 m, .int .i64 (plC c d)] 3)).drew = V := ⟨_, rfl⟩
      have hbV : Below W2.heap.size W2 V := by rw [<- hV]; exact ((Below.refl _ _).alloc (Nat.le_refl _) _).drew
      have hxV : Blk V W2.heap.size 3 #[.int .i64 m, .int .i64 (plC c d)] := by rw [<- hV]; exact Blk.drew (Blk.new W2 _ _)
      try rw [hV]
      have hS2 := HKS.out _ hbV
      clear hV
      refine hK _ _ hS2 ?_
      clear hK
      try simp only [Act.put, zq1, zq2, zq3, zq4, zq5, zq6]
      have hmn := smin_any m (plC c d) W2.heap.size V HCM.out (Blk.cell hxV 0) (Blk.cell hxV 1)
      refine anyX_g (i := 28) (by kernel_rfl) (by decide) rfl (by rfl) ?_
      intro K hK
      try simp only [zq1, zq2, zq3]
      refine wp_enterE #[.slice (some ⟨W2.heap.size, 0, none⟩) 2 2] Tryz.func100 (by kernel_rfl) (by kernel_rfl) ?_ (hmn) ?_
      ·go_simp
      rintro e w1 ⟨rfl, rfl⟩
      refine ⟨_, rfl, ?_⟩
      refine hK _ _ hS2 ?_
      clear hK
      try simp only [Act.put, zq1, zq2, zq3, zq4, zq5, zq6]
      refine tkx (i := 29) (v := ?_) hS2 ?_ ?_
      rotate_left
      ·rintro w' ⟨c0, c1, c2, c3, c4, c5, c6⟩
       go_simp
       try with_reducible rfl
      try simp only [Act.put, zq1, zq2, zq3, zq4, zq5, zq6]
      have HV := Lib.hid hbV
      have fr : V.frozen? ⟨R p, q, none⟩ = false := Blk.frozen (Blk.below (HROW.out) hbV (HROW.out).lt) q
      obtain ⟨c0, c1, c2, c3, c4, c5, c6⟩ := hS2
      clear hS hbV hxV hmn
      refine anyX_last (by kernel_rfl) (by kernel_rfl) rfl rfl ?_
      try simp only [zq1, zq2, zq3]
      go_simp
      try apply_assumption
      clear c0 c1 c2 c3 c4 c5 c6 fr
      go_wp2_with fail
      go_roundg (nf - (j + 1))
      case measure => have := HGK2.out; omega
      case rel =>
       refine ⟨j + 1, by go_num, rfl, by omega, Lib.hid ?_, Lib.hid ?_⟩
       ·exact (HFr2.out.trans (FrM.quiet HV.out HMk2.out.top (Nat.le_trans (Nat.le_of_lt (Nat.lt_of_le_of_lt HN.out.1 HN.out.2)) HMk2.out.top))).set (p := ⟨R p, q, none⟩) (HMk2.out.costs.rows p hpN).1 (HMk2.out.costs.rows p hpN).2.1 _
       ·rw [take_snoc_ F j hl2, HFI.out, linkR_snoc, HM2.out]
        have := (HMk2.out.bel HV.out).setM hpN hqN (mnC m (plC c d))
        rw [<- HMV.out] at this ⊢
        exact this
     ·obtain rfl : j = nf := by omega
      go_wp2_with fail
      go_roundg (ne - (i + 1))
      case measure => have := HGK.out; omega
      case rel =>
       refine ⟨i + 1, by go_num, rfl, by omega, Lib.hid (HFr1.out.trans HFR2.out), Lib.hid ?_⟩
       rw [take_snoc_ E i hl, HEI.out, linkM_snoc, HM1.out]
       have h2 := HMK2.out
       rw [List.take_of_length_le (by rw [HNF.out]; exact Nat.le_refl _)] at h2
       exact h2
   ·obtain rfl : i = ne := by omega
    go_wp2_with fail
    have h2 := HMK.out
    rw [List.take_of_length_le (by rw [HNE.out]; exact Nat.le_refl _)] at h2
    go_end0
    exact ⟨rfl, h2, HFR.out⟩
end Go.Proofs.YtfccnadbiglagaaGreat
