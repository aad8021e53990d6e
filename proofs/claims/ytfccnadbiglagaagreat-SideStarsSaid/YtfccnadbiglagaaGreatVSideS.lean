/- Rounds taken from behind: what the maker holds after each; plain mathematics. The maker's memory while what is no cells turns. Contract of the maker's rounds: upTo. -/
import Derived.Test.YtfccnadbiglagaaGreatVPlB
import Derived.Test.YtfccnadbiglagaaGreatVSideC
import Derived.Test.YtfccnadbiglagaaGreatVSideN
import Derived.Test.YtfccnadbiglagaaGreatVSideI
import Derived.RangeFuncBox
set_option linter.unusedVariables false
set_option linter.unusedSimpArgs false
set_option maxRecDepth 100000
set_option maxHeartbeats 8000000
namespace Go.Proofs.YtfccnadbiglagaaGreat
structure UpS where
 F : List (Int × Int)
 E : List (Int × Int)
 z : Int
 M : Mat
def upStep (lo : Nat) (FF EE : Nat -> List (Int × Int)) (zz : Nat -> Int) (u : UpS) (i : Nat) : UpS :=
 ⟨FF i ++ plusD u.F (zz i), plusD (EE i) u.z ++ u.E, if lo <= i then 0 else plC (zz i) u.z, linkM u.M (EE i) u.F⟩
def upSt (lo : Nat) (FF EE : Nat -> List (Int × Int)) (zz : Nat -> Int) (M : Mat) (pre : List Nat) : UpS := pre.foldl (upStep lo FF EE zz) ⟨[], [], 0, M⟩
theorem upSt_snoc (lo : Nat) (FF EE : Nat -> List (Int × Int)) (zz : Nat -> Int) (M : Mat) (pre : List Nat) (i : Nat) : upSt lo FF EE zz M (pre ++ [i]) = upStep lo FF EE zz (upSt lo FF EE zz M pre) i := by simp [upSt]
theorem Doors.app {N : Nat} {l m : List (Int × Int)} (h : Doors N l) (k : Doors N m) : Doors N (l ++ m) := fun d hd => by
 rcases List.mem_append.1 hd with q | q
 ·exact h d q
 ·exact k d q
theorem Doors.plus {N : Nat} {l : List (Int × Int)} (h : Doors N l) {n : Int} (hn : CostC n) : Doors N (plusD l n) := fun d hd => by
 obtain ⟨x, hx, e⟩ := List.mem_filterMap.1 hd
 split at e
 ·simp only [Option.some.injEq] at e
  subst e
  exact ⟨(h x hx).1, plC_is (h x hx).2 hn⟩
 ·cases e
structure UpS.Ok (u : UpS) (N k : Nat) : Prop where
 dF : Doors N u.F
 dE : Doors N u.E
 cz : CostC u.z
 cM : ∀ x y, CostC (u.M x y)
 lF : u.F.length <= k
 lE : u.E.length <= k
theorem plusD_le (l : List (Int × Int)) (n : Int) : (plusD l n).length <= l.length := List.length_filterMap_le _ _
theorem upStep_ok {lo : Nat} {FF EE : Nat -> List (Int × Int)} {zz : Nat -> Int} {u : UpS} {N k q i : Nat} (h : u.Ok N k) (hF : Doors N (FF i)) (hE : Doors N (EE i)) (hz : CostC (zz i)) (lF : (FF i).length <= q) (lE : (EE i).length <= q) : (upStep lo FF EE zz u i).Ok N (k + q) where
 dF := hF.app (h.dF.plus hz)
 dE := (hE.plus h.cz).app h.dE
 cz := by
  show CostC (if lo <= i then 0 else plC (zz i) u.z)
  split
  ·exact zeroC_is
  ·exact plC_is hz h.cz
 cM := linkM_cost h.cM h.dF hE
 lF := by have := plusD_le u.F (zz i); have := h.lF; simp only [upStep, List.length_append]; omega
 lE := by have := plusD_le (EE i) u.z; have := h.lE; simp only [upStep, List.length_append]; omega
theorem upSt_ok {lo : Nat} {FF EE : Nat -> List (Int × Int)} {zz : Nat -> Int} {M : Mat} {N q : Nat} (hM : ∀ x y, CostC (M x y)) (S : Nat -> Prop) (h : ∀ i, S i -> Doors N (FF i) /\ Doors N (EE i) /\ CostC (zz i) /\ (FF i).length <= q /\ (EE i).length <= q) (n : Nat) :
  ∀ pre : List Nat, pre.length = n -> (∀ i ∈ pre, S i) -> (upSt lo FF EE zz M pre).Ok N (n * q) := by
  induction n with
  | zero =>
    intro pre hp _
    obtain rfl := List.eq_nil_of_length_eq_zero hp
    exact ⟨(fun d hd => by cases hd), (fun d hd => by cases hd), zeroC_is, hM, Nat.zero_le _, Nat.zero_le _⟩
  | succ n ih =>
    intro pre hp hS
    have hne : pre ≠ [] := fun e => by subst e; simp at hp
    rw [<- List.dropLast_concat_getLast hne] at hS ⊢
    rw [upSt_snoc, Nat.succ_mul]
    obtain ⟨h1, h2, h3, h4, h5⟩ := h _ (hS (pre.getLast hne) (by simp))
    exact upStep_ok (ih _ (by simp; omega) (fun i hi => hS i (by simp [hi]))) h1 h2 h3 h4 h5
theorem upSt_rounds {M : Mat} {o : Nat} {a : SideP} (hM : ∀ x y, CostC (M x y)) (hf : FreeM M o) (ha : a.Ok) (lo hi : Nat) (FF EE : Nat -> List (Int × Int)) (zz : Nat -> Int)
  (hF : ∀ i, i < hi -> FF i = doorsOf (o + i * a.n) a.first) (hE : ∀ i, i < hi -> EE i = doorsOf (o + i * a.n) a.ends) (hz : ∀ i, i < hi -> zz i = a.none_) : ∀ j, j <= hi ->
  upSt lo FF EE zz (roundsM M o a hi) ((List.range j).map fun i => hi - 1 - i) = ⟨doorsOf (o + (hi - j) * a.n) (sUp a lo hi j).first, doorsOf (o + (hi - j) * a.n) (sUp a lo hi j).ends, (sUp a lo hi j).none_, linkedM M o a lo hi j⟩ := by
  intro j
  induction j with
  | zero =>
    intro _
    rw [linkedM_zero]
    rfl
  | succ j ih =>
    intro hj
    rw [List.range_succ, List.map_append, List.map_singleton, upSt_snoc, ih (by omega)]
    have hb := sUp_ok ha lo hi j
    have e1 : o + (hi - (j + 1)) * a.n + a.n = o + (hi - j) * a.n := by
     rw [Nat.add_assoc, <- Nat.succ_mul, show (hi - (j + 1)).succ = hi - j by omega]
    have hi1 : hi - 1 - j = hi - (j + 1) := by omega
    unfold upStep
    dsimp only
    rw [hi1, hF _ (by omega), hE _ (by omega), hz _ (by omega), linkedM_step hM hf ha lo hi j (by omega), plusD_doors' _ ha.cn _ hb.cf, plusD_doors _ hb.cn _ ha.ce]
    congr 1
    ·rw [sUp_first]
     show _ = doorsOf _ (a.first ++ (sUp a lo hi j).first.map (plC a.none_))
     rw [doorsOf_app, ha.lf, e1]
    ·rw [sUp_ends]
     show _ = doorsOf _ (a.ends.map (fun x => plC x (sUp a lo hi j).none_) ++ (sUp a lo hi j).ends)
     rw [doorsOf_app, List.length_map, ha.le, e1]
    ·rw [sUp_none]
     by_cases h : lo < hi - j
     ·rw [if_pos h, if_pos (by omega)]
     ·rw [if_neg h, if_neg (by omega)]
end Go.Proofs.YtfccnadbiglagaaGreat
namespace Go.Proofs.YtfccnadbiglagaaGreat
open Go Go.RowKit Go.Proofs
def TurnsNone (W : World) (row : Option Nat) : Prop := ∀ r, row = some r -> ∃ o : Obj, W.heap[r]? = some o /\ o.isCells = false
section
variable {W W' : World} {row : Option Nat}
theorem Blk.turn {g : Nat} {t : TypeId} {cs : Array Value} (h : Blk W g t cs) (hg : W.grownBy W' row) (hr : TurnsNone W row) : Blk W' g t cs := (grownBy_keeps_cells hg hr h rfl).trans h
theorem ownsRow_own {B n : Nat} {e : TypeId} {k : Nat} {v : Value} {xs : List Value} (h : W.ownsRow B e k v n xs) (hg : W.grownBy W' row) (hr : TurnsNone W row) : W'.ownsRow B e k v n xs := by
 refine h.kept hg ?_
 rcases h.2 with ⟨rfl, _⟩ | ⟨g, cap, cur, rfl, _, hgb, _⟩
 ·exact .inl rfl
 ·refine .inr fun e' => ?_
  obtain ⟨o, ho, hc⟩ := hr g (by simpa [Value.ownBlock] using e'.symm)
  rw [hgb] at ho; cases ho; cases hc
theorem DoorsV.turn {S : Nat -> Prop} {v : Value} {l : List (Int × Int)} (h : DoorsV W S v l) (hg : W.grownBy W' row) (hr : TurnsNone W row) : DoorsV W' S v l :=
 h.keep (fun _ h _ => h) (fun g _ _ i x hx => cell_kept hx hg hr)
theorem MkAt.turn {B T b N : Nat} {sv : Value} {S : List Int} {cv : Value} {g0 o0 cc : Nat} {R : Nat -> Nat} {dv rv : Value} {M : Mat} (h : MkAt W B T b N sv S cv g0 o0 cc R dv rv M) (hg : W.grownBy W' row) (hr : TurnsNone W row) :
  MkAt W' B T b N sv S cv g0 o0 cc R dv rv M where
  box := h.box.turn hg hr
  bB := h.bB
  bg := h.bg
  bR := h.bR
  top := Nat.le_trans h.top hg.size
  sets := ownsRow_own h.sets hg hr
  small := h.small
  fits := h.fits
  costs := ⟨h.costs.form, h.costs.low, fun i hi => cell_kept (h.costs.cells i hi) hg hr, h.costs.rows, h.costs.apart, fun i hi => (h.costs.at_ i hi).turn hg hr⟩
theorem FrM.turn {B T : Nat} {w : World} {sv sv' : Value} (h : FrM B T w W sv sv') (hg : W.grownBy W' row) (hw : B <= w.heap.size) (hr : ∀ r, row = some r -> w.heap.size <= r) : FrM B T w W' sv sv' where
 below := h.below.grown hg (Nat.le_trans hw h.size) (fun k e => Nat.le_trans hw (hr k e))
 size := Nat.le_trans h.size hg.size
 top := h.top
 keep := fun g h1 h2 h3 => by
  rw [hg.block g (Nat.lt_of_lt_of_le h2 h.size) (fun e => by have := hr g e.symm; omega)]
  exact h.keep g h1 h2 h3
 own := h.own
end
theorem FrM.keeps {B T C : Nat} {w W : World} {S : List Int} {n : Nat} {sv sv' : Value} (h : FrM B T w W sv sv') (hs : Own w T sv n S) (hC : T <= C) : KeepsFrom C w W := by
 refine ⟨h.size, fun k o hk ho hc => ?_⟩
 have hlt := (Array.getElem?_eq_some_iff.1 ho).1
 rw [h.keep k (Nat.le_trans hC hk) hlt ?_]
 ·exact ho
 intro e
 rcases hs.2 with ⟨rfl, _⟩ | ⟨g, cap, cur, rfl, _, hgb, _⟩
 ·cases e
 ·obtain rfl : g = k := by simpa [Value.ownBlock] using e
  rw [hgb] at ho; cases ho; cases hc
theorem backs_vals (len : Nat) : ∀ k, k <= len -> (backs len k).map (fun i => i.1) = (List.range k).map fun i => len - 1 - i
 | 0, _ => by simp [backs]
 | k + 1, h => by rw [backs_succ _ _ (by omega), List.map_append, backs_vals len k (by omega), List.range_succ, List.map_append]; rfl
end Go.Proofs.YtfccnadbiglagaaGreat
namespace Go.Proofs.YtfccnadbiglagaaGreat
open Go Go.RowKit Go.Proofs Go.Shelf
attribute [local go_sem] Oper.semAt_some
theorem KeepTwo.b {b9 Bs B0 : Nat} (h1 : b9 < B0) (h2 : Bs < B0) : ∀ (W : World) (l : Nat) (o o' : Obj), B0 <= l -> W.heap[l]? = some o -> o.isCells = false -> o.isWalk = false -> KeepTwo b9 Bs W (W.putObj l o') := fun W l o o' hl h _ _ =>
 have hs := (Array.getElem?_eq_some_iff.1 h).1
 ⟨(grownBy_putObj' W l o').block b9 (by omega) (fun e => by cases e; omega), (grownBy_putObj' W l o').block Bs (by omega) (fun e => by cases e; omega)⟩
structure UpAt (w : World) (B T b N : Nat) (sv : Value) (S : List Int) (cv : Value) (g0 o0 cc : Nat) (R : Nat -> Nat) (dv rv : Value) (lo : Nat) (u : UpS) (W : World) : Prop where
 m : Blk W w.heap.size 115 #[.pointer (some ⟨b, 0, none⟩)]
 l : Blk W (w.heap.size + 1) 3 #[.int .i64 lo]
 r : Blk W (w.heap.size + 1 + 1) 87 #[.slice none 0 0, .slice none 0 0, .int .i64 0]
 p : ∃ A1 k1 A2 k2, Blk W (w.heap.size + 1 + 1 + 1) 87 #[.slice A1 u.F.length k1, .slice A2 u.E.length k2, .int .i64 u.z] /\ DoorsV W (fun g => w.heap.size + 5 <= g /\ Left_ T sv g) (.slice A1 u.F.length k1) u.F /\ DoorsV W (fun g => w.heap.size + 5 <= g /\ Left_ T sv g) (.slice A2 u.E.length k2) u.E
 kk : MkAt W B T b N sv S cv g0 o0 cc R dv rv u.M
 fr : FrM B T w W sv sv
 sz : w.heap.size + 5 <= W.heap.size
theorem UpAt.turn {w : World} {B T b N : Nat} {sv : Value} {S : List Int} {cv : Value} {g0 o0 cc : Nat} {R : Nat -> Nat} {dv rv : Value} {lo : Nat} {u : UpS} {W W' : World} {row : Option Nat} (h : UpAt w B T b N sv S cv g0 o0 cc R dv rv lo u W) (hg : W.grownBy W' row) (hw : B <= w.heap.size) (hr : TurnsNone W row) (hr2 : ∀ r, row = some r -> w.heap.size <= r) : UpAt w B T b N sv S cv g0 o0 cc R dv rv lo u W' where
 m := h.m.turn hg hr
 l := h.l.turn hg hr
 r := h.r.turn hg hr
 p := by
   obtain ⟨A1, k1, A2, k2, h1, h2, h3⟩ := h.p
   exact ⟨A1, k1, A2, k2, h1.turn hg hr, h2.turn hg hr, h3.turn hg hr⟩
 kk := h.kk.turn hg hr
 fr := h.fr.turn hg hw hr2
 sz := Nat.le_trans h.sz hg.size
theorem upTo_any {w : World} {B T b N : Nat} {sv : Value} {S : List Int} {cv : Value} {g0 o0 cc : Nat} {R : Nat -> Nat} {dv rv : Value} {M : Mat} (hm : MkAt w B T b N sv S cv g0 o0 cc R dv rv M) (hM : ∀ x y, CostC (M x y)) {f : Nat -> PcC} {FF EE : Nat -> List (Int × Int)} {len q b9 off cap lo : Nat} (hlen : len <= 1000) (hlo : lo <= 1000000000)
  (hp : ∀ i, i < len -> PieceV w (Left_ T sv) (.agg #[.slice (f i).fA (f i).fn (f i).fc, .slice (f i).eA (f i).en (f i).ec, .int .i64 (f i).z]) (FF i) (EE i) (f i).z /\ Doors N (FF i) /\ Doors N (EE i) /\ CostC (f i).z /\ (FF i).length <= q /\ (EE i).length <= q) (hq : len * q <= 1000) (h9 : Left_ T sv b9) (h9l : b9 < w.heap.size)
  (hc : ∀ j, j < len -> w.cell? ⟨b9, off + j * 3, none⟩ = some (.slice (f j).fA (f j).fn (f j).fc) /\ w.cell? ⟨b9, off + j * 3 + 1, none⟩ = some (.slice (f j).eA (f j).en (f j).ec) /\ w.cell? ⟨b9, off + j * 3 + 2, none⟩ = some (.int .i64 (f j).z)) :
  Calls Tryz.prog 109 #[.pointer (some ⟨b, 0, none⟩), .slice (some ⟨b9, off, none⟩) len cap, .int .i64 lo] w fun e w' => ∃ v', e = .returned v' /\
   PieceV w' (fun g => w.heap.size <= g /\ Left_ T sv g) v' (upSt lo FF EE (fun i => (f i).z) M ((List.range len).map fun i => len - 1 - i)).F (upSt lo FF EE (fun i => (f i).z) M ((List.range len).map fun i => len - 1 - i)).E (upSt lo FF EE (fun i => (f i).z) M ((List.range len).map fun i => len - 1 - i)).z /\
   MkAt w' B T b N sv S cv g0 o0 cc R dv rv (upSt lo FF EE (fun i => (f i).z) M ((List.range len).map fun i => len - 1 - i)).M /\ FrM B T w w' sv sv := by
  rw [<- backs_vals len len (Nat.le_refl _)]
  obtain ⟨U, hU⟩ : ∃ U : List (Fin len) -> UpS, U = fun pre => upSt lo FF EE (fun i => (f i).z) M (pre.map (fun i => i.1)) := ⟨_, rfl⟩
  have hU0 : U [] = ⟨[], [], 0, M⟩ := by rw [hU]; rfl
  have hUs : ∀ pre i, U (pre ++ [i]) = upStep lo FF EE (fun i => (f i).z) (U pre) i.1 := fun pre i => by rw [hU]; simp [upSt]
  have hUok : ∀ pre, (U pre).Ok N (pre.length * q) := fun pre => by
   rw [hU]
   exact upSt_ok hM (fun i => i < len) (fun i hi => (hp i hi).2) pre.length _ (by simp) (fun i hi => by
    obtain ⟨x, _, rfl⟩ := List.mem_map.1 hi
    exact x.2)
  rw [show upSt lo FF EE (fun i => (f i).z) M ((backs len len).map (fun i => i.1)) = U (backs len len) by rw [hU]]
  clear hU
  obtain ⟨W0, hW0⟩ : ∃ W0, ((((w.alloc (.cells #[.pointer (some ⟨b, 0, none⟩)] 115)).alloc (.cells #[.int .i64 lo] 3)).alloc (.cells #[.slice none 0 0, .slice none 0 0, .int .i64 0] 87)).alloc (.cells #[.slice none 0 0, .slice none 0 0, .int .i64 0] 87)).alloc (.cells #[.slice (some ⟨b9, off, none⟩) len cap] 157) = W0 := ⟨_, rfl⟩
  refine (callsIn_wide (n := 8)).1 ?_
  refine callsIn_of_wp_marks Tryz.func109 rfl trivial ?_ rfl
  simp only [Tryz.ntmps109, List.size_toArray, List.length_cons, List.length_nil, Nat.reduceAdd, Nat.reduceSub, Array.replicate_succ, Array.replicate_zero, List.push_toArray, List.append_toArray, List.nil_append, List.cons_append]
  gi_wp2_with (refine ⟨trivial, ?_⟩; gi_at_call 129; refine (backward_in Fence.wide (8 - 1) trivial rfl _ _ _ _).mono ?_; rintro e w' ⟨rfl, rfl⟩)
  skip
  have hb0 : Below w.heap.size w W0 := by rw [<- hW0]; exact (((((Below.refl _ _).alloc (Nat.le_refl _) _).alloc (by simp) _).alloc (by simp; omega) _).alloc (by simp; omega) _).alloc (by simp; omega) _
  have hz0 : W0.heap.size = w.heap.size + 5 := by rw [<- hW0]; simp
  have hBB := BB hm.bB hm.top
  have htop := hm.top
  have hgb : ∀ (X Y : World) (C : Nat) (t : TypeId) (c : Array Value) (o : Obj), X.heap.size = C -> Blk (X.alloc (.cells c t)) C t c := fun X Y C t c o e => by rw [<- e]; exact Blk.new _ _ _
  have x0 : Blk W0 w.heap.size 115 #[.pointer (some ⟨b, 0, none⟩)] := by rw [<- hW0]; exact Blk.alloc (Blk.alloc (Blk.alloc (Blk.alloc (Blk.new _ _ _) _) _) _) _
  have x1 : Blk W0 (w.heap.size + 1) 3 #[.int .i64 lo] := by rw [<- hW0]; exact Blk.alloc (Blk.alloc (Blk.alloc (hgb _ w _ _ _ (.cells #[] 0) (by simp)) _) _) _
  have x2 : Blk W0 (w.heap.size + 1 + 1) 87 #[.slice none 0 0, .slice none 0 0, .int .i64 0] := by rw [<- hW0]; exact Blk.alloc (Blk.alloc (hgb _ w _ _ _ (.cells #[] 0) (by simp)) _) _
  have x3 : Blk W0 (w.heap.size + 1 + 1 + 1) 87 #[.slice none 0 0, .slice none 0 0, .int .i64 0] := by rw [<- hW0]; exact Blk.alloc (hgb _ w _ _ _ (.cells #[] 0) (by simp)) _
  have x4 : Blk W0 (w.heap.size + 1 + 1 + 1 + 1) 157 #[.slice (some ⟨b9, off, none⟩) len cap] := by rw [<- hW0]; exact hgb _ w _ _ _ (.cells #[] 0) (by simp)
  refine wpIn_rangeFunc_ownH rfl (by omega) (gf := 145) (lb := #[.pointer (some ⟨w.heap.size + 1 + 1 + 1 + 1, 0, none⟩)]) rfl trivial (enters_of Tryz.func145 (by kernel_rfl) rfl)
   (back_stops Fence.wide (8 - 1) trivial rfl (by omega) (w.heap.size + 1 + 1 + 1 + 1) b9 off len cap f hlen W0 (Blk.cell x4 0) (fun j hj => ⟨bel_q hb0 (hc j hj).1, bel_q hb0 (hc j hj).2.1, bel_q hb0 (hc j hj).2.2⟩)) KeepTwo.t (KeepTwo.b (by omega) (by omega)) (Below.refl _ _) (fun _ => rfl)
   (fun pre W => UpAt w B T b N sv S cv g0 o0 cc R dv rv lo (U pre) W)
   (fun _ _ _ => False)
   (fun pre X Y row hs hg hr => hs.turn hg hBB (fun r e => (hr r e).2) (fun r e => by have := (hr r e).1; omega))
   (fun _ _ _ _ _ hs _ _ => hs)
   (by rw [hU0]; exact ⟨x0, x1, x2, ⟨none, 0, none, 0, x3, DoorsV.nil _ _, DoorsV.nil _ _⟩, hm.bel hb0, FrM.quiet hb0 htop hBB, by omega⟩)
   (fun x a' W => ∃ Bx, w.heap.size + 1 + 1 + 1 + 1 < Bx /\ Blk W Bx 87 #[.slice (f x.1).fA (f x.1).fn (f x.1).fc, .slice (f x.1).eA (f x.1).en (f x.1).ec, .int .i64 (f x.1).z] /\ a' = { tmps := #[.pointer (some ⟨b, 0, none⟩), .slice (some ⟨b9, off, none⟩) len cap, .int .i64 lo, .pointer (some ⟨w.heap.size, 0, none⟩), undef, .pointer (some ⟨w.heap.size + 1, 0, none⟩), .pointer (some ⟨w.heap.size + 1 + 1, 0, none⟩), .pointer (some ⟨w.heap.size + 1 + 1 + 1, 0, none⟩), .int .i64 (x.1 : Int), .pointer (some ⟨Bx, 0, none⟩), .slice (some ⟨b9, off, none⟩) len cap, .func (.func 145) #[] #[.pointer (some ⟨w.heap.size + 1 + 1 + 1 + 1, 0, none⟩)], .int .i64 (x.1 : Int), .agg #[.slice (f x.1).fA (f x.1).fn (f x.1).fc, .slice (f x.1).eA (f x.1).en (f x.1).ec, .int .i64 (f x.1).z], undef, undef, undef, undef, undef, undef, undef, undef, undef], defers := [] })
   (fun x a' _ X Y row hs hg hr => by obtain ⟨Bx, h1, h2, h3⟩ := hs; exact ⟨Bx, h1, h2.turn hg (fun r e => (hr r e).2), h3⟩)
   ?assign ?body ?done ?stop
  case assign =>
   rintro l pre x W K hI hK
   gi_wp2
   have hz := hI.sz
   exact hK _ _ ((KeepsOthers.alloc _ _).from _) ⟨Below.heap_alloc W _ b9 (by omega), Below.heap_alloc W _ _ (by omega)⟩ (hI.turn (World.grownBy_alloc W _ none) hBB (fun r e => by cases e) (fun r e => by cases e)) ⟨W.heap.size, by omega, Blk.new _ _ _, rfl⟩
  case body =>
   rintro l pre x a' W hl ⟨r, hr⟩ hI ⟨Bx, hBx, bX, rfl⟩ hlt
   obtain ⟨hx1, hx2, hx3, hx4, hx5, hx6⟩ := hp x.1 x.2
   have hk := hUok pre
   have hz := hI.sz
   have hBxl := bX.lt
   have hown : ∀ g, w.heap.size <= g -> sv.ownBlock ≠ some g := fun g hg e => by have := (hm.sets.lt _ e).2; omega
   obtain ⟨A1, k1, A2, k2, xr, hd1, hd2⟩ := hI.p
   have hmul : (pre.length + 1) * q <= len * q := Nat.mul_le_mul_right _ hlt
   rw [Nat.succ_mul] at hmul
   have hrow := row_any hI.kk (hx1.fr hI.fr) (vb := .agg #[.slice A1 (U pre).F.length k1, .slice A2 (U pre).E.length k2, .int .i64 (U pre).z]) ⟨_, _, rfl, hd1.sub (fun g h => h.2), hd2.sub (fun g h => h.2)⟩ hk.dF hx3 hk.cM hx4 hk.cz (by have := hk.lF; omega) (by have := hk.lE; omega)
   obtain ⟨nF, hnF⟩ : ∃ n, (U pre).F.length = n := ⟨_, rfl⟩
   obtain ⟨nE, hnE⟩ : ∃ n, (U pre).E.length = n := ⟨_, rfl⟩
   obtain ⟨uz, huz⟩ : ∃ n, (U pre).z = n := ⟨_, rfl⟩
   rw [hnF, hnE, huz] at hrow xr
   have c0 := Blk.cell hI.m 0
   have d0 := Blk.cell bX 0; have d1 := Blk.cell bX 1; have d2 := Blk.cell bX 2
   have r0 := Blk.cell xr 0; have r1 := Blk.cell xr 1; have r2 := Blk.cell xr 2
   simp only [List.getElem?_toArray, List.getElem?_cons_zero, List.getElem?_cons_succ] at c0 d0 d1 d2 r0 r1 r2
   have hstep := hUs pre x
   have HI := Lib.hid hI; have HBX := Lib.hid bX; have HXR := Lib.hid xr; have HOW := Lib.hid hown; have HROW := Lib.hid hrow; have HST := Lib.hid hstep; have HM0 := Lib.hid hm
   clear hI bX xr hown hrow hstep hp hc hUok hUs hm hx1 hx2 hx3 hk hd1 hd2 x0 x1 x2 x3 x4 hgb hM
   gi_wp2_with (refine ⟨trivial, ?_⟩; gi_at_call 68; refine (CallsIn.inRound l (callsIn_wide.2 HROW.out)).mono ?_; clear c0 d0 d1 d2 r0 r1 r2; rintro e w2 ⟨v', rfl, hpv, hmk, hfr⟩; obtain ⟨FA, fc, EA, ec, rfl, hpf, hpe, -, -, -, -, -, -⟩ := hpv.parts; obtain ⟨n1, hn1⟩ : ∃ n, (FF x.1 ++ plusD (U pre).F (f x.1).z).length = n := ⟨_, rfl⟩; obtain ⟨n2, hn2⟩ : ∃ n, (plusD (EE x.1) uz ++ (U pre).E).length = n := ⟨_, rfl⟩; rw [hn1] at hpf ⊢; rw [hn2] at hpe ⊢; have y3 := (hfr.keep (w.heap.size + 1 + 1 + 1) (by omega) (by omega) (HOW.out _ (by omega))).trans HXR.out; have y1 := (hfr.keep (w.heap.size + 1) (by omega) (by omega) (HOW.out _ (by omega))).trans HI.out.l; have y0 := (hfr.keep w.heap.size (by omega) (by omega) (HOW.out _ (by omega))).trans HI.out.m; have y2 := (hfr.keep (w.heap.size + 1 + 1) (by omega) (by omega) (HOW.out _ (by omega))).trans HI.out.r; have y9 := hfr.keep b9 h9.1 (by omega) h9.2; have y4 := hfr.keep (w.heap.size + 1 + 1 + 1 + 1) (by omega) (by omega) (HOW.out _ (by omega)); have hsz2 := hfr.size; have HFR := Lib.hid hfr; have HMK := Lib.hid hmk; have HPF := Lib.hid hpf; have HPE := Lib.hid hpe; have Y3 : Hid (Blk w2 (w.heap.size + 1 + 1 + 1) _ _) := Lib.hid y3; have Y1 : Hid (Blk w2 (w.heap.size + 1) _ _) := Lib.hid y1; have Y0 : Hid (Blk w2 w.heap.size _ _) := Lib.hid y0; have Y2 : Hid (Blk w2 (w.heap.size + 1 + 1) _ _) := Lib.hid y2; have Y9 := Lib.hid y9; have Y4 := Lib.hid y4; have HN1 := Lib.hid hn1; have HN2 := Lib.hid hn2; have r0 := Blk.cell Y3.out 0; have r1 := Blk.cell Y3.out 1; have r2 := Blk.cell Y3.out 2; have fr0 := Blk.frozen Y3.out 0; have fr1 := Blk.frozen Y3.out 1; have fr2 := Blk.frozen Y3.out 2; have l0 := Blk.cell Y1.out 0; simp only [List.getElem?_toArray, List.getElem?_cons_zero, List.getElem?_cons_succ] at r0 r1 r2 l0; clear hpv hmk hfr hpf hpe y0 y1 y2 y3 y4 y9 hn1 hn2)
   ·refine ⟨(((((FrM.keeps HFR.out HI.out.kk.sets (show T <= W0.heap.size by omega)).trans ((KeepsOthers.setCell _ _ _).from _)).trans ((KeepsOthers.setCell _ _ _).from _)).trans ((KeepsOthers.setCell _ _ _).from _)).trans ((KeepsOthers.setCell _ _ _).from _)), ⟨((Below.heap_setCell _ ⟨w.heap.size + 1 + 1 + 1, 2, none⟩ (.int .i64 0) (b9) (show b9 ≠ w.heap.size + 1 + 1 + 1 by omega)).trans ((Below.heap_setCell _ ⟨w.heap.size + 1 + 1 + 1, 2, none⟩ (.int .i64 (plC (f x.1).z uz)) (b9) (show b9 ≠ w.heap.size + 1 + 1 + 1 by omega)).trans ((Below.heap_setCell _ ⟨w.heap.size + 1 + 1 + 1, 1, none⟩ (.slice EA n2 ec) (b9) (show b9 ≠ w.heap.size + 1 + 1 + 1 by omega)).trans ((Below.heap_setCell _ ⟨w.heap.size + 1 + 1 + 1, 0, none⟩ (.slice FA n1 fc) (b9) (show b9 ≠ w.heap.size + 1 + 1 + 1 by omega)).trans Y9.out)))), ((Below.heap_setCell _ ⟨w.heap.size + 1 + 1 + 1, 2, none⟩ (.int .i64 0) (w.heap.size + 1 + 1 + 1 + 1) (show w.heap.size + 1 + 1 + 1 + 1 ≠ w.heap.size + 1 + 1 + 1 by omega)).trans ((Below.heap_setCell _ ⟨w.heap.size + 1 + 1 + 1, 2, none⟩ (.int .i64 (plC (f x.1).z uz)) (w.heap.size + 1 + 1 + 1 + 1) (show w.heap.size + 1 + 1 + 1 + 1 ≠ w.heap.size + 1 + 1 + 1 by omega)).trans ((Below.heap_setCell _ ⟨w.heap.size + 1 + 1 + 1, 1, none⟩ (.slice EA n2 ec) (w.heap.size + 1 + 1 + 1 + 1) (show w.heap.size + 1 + 1 + 1 + 1 ≠ w.heap.size + 1 + 1 + 1 by omega)).trans ((Below.heap_setCell _ ⟨w.heap.size + 1 + 1 + 1, 0, none⟩ (.slice FA n1 fc) (w.heap.size + 1 + 1 + 1 + 1) (show w.heap.size + 1 + 1 + 1 + 1 ≠ w.heap.size + 1 + 1 + 1 by omega)).trans Y4.out))))⟩, ?_⟩
    have hb3 := ((((Y3.out.set_ 0 (.slice FA n1 fc)).set_ 1 (.slice EA n2 ec)).set_ 2 (.int .i64 (plC (f x.1).z uz))).set_ 2 (.int .i64 0))
    have hq1 := (((((HPF.out.low (p := ⟨w.heap.size + 1 + 1 + 1, 0, none⟩) (show w.heap.size + 1 + 1 + 1 < W.heap.size by omega) (.slice FA n1 fc)).low (p := ⟨w.heap.size + 1 + 1 + 1, 1, none⟩) (show w.heap.size + 1 + 1 + 1 < W.heap.size by omega) (.slice EA n2 ec)).low (p := ⟨w.heap.size + 1 + 1 + 1, 2, none⟩) (show w.heap.size + 1 + 1 + 1 < W.heap.size by omega) (.int .i64 (plC (f x.1).z uz))).low (p := ⟨w.heap.size + 1 + 1 + 1, 2, none⟩) (show w.heap.size + 1 + 1 + 1 < W.heap.size by omega) (.int .i64 0))).sub (S1 := fun g => w.heap.size + 5 <= g /\ Left_ T sv g) (fun g h => ⟨by omega, h.2⟩)
    have hq2 := (((((HPE.out.low (p := ⟨w.heap.size + 1 + 1 + 1, 0, none⟩) (show w.heap.size + 1 + 1 + 1 < W.heap.size by omega) (.slice FA n1 fc)).low (p := ⟨w.heap.size + 1 + 1 + 1, 1, none⟩) (show w.heap.size + 1 + 1 + 1 < W.heap.size by omega) (.slice EA n2 ec)).low (p := ⟨w.heap.size + 1 + 1 + 1, 2, none⟩) (show w.heap.size + 1 + 1 + 1 < W.heap.size by omega) (.int .i64 (plC (f x.1).z uz))).low (p := ⟨w.heap.size + 1 + 1 + 1, 2, none⟩) (show w.heap.size + 1 + 1 + 1 < W.heap.size by omega) (.int .i64 0))).sub (S1 := fun g => w.heap.size + 5 <= g /\ Left_ T sv g) (fun g h => ⟨by omega, h.2⟩)
    show UpAt w B T b N sv S cv g0 o0 cc R dv rv lo (U (pre ++ [x])) _
    rw [HST.out]
    have hlz : (if lo <= x.1 then 0 else plC (f x.1).z uz) = 0 := if_pos (by omega)
    refine ⟨(Blk.far (p := ⟨w.heap.size + 1 + 1 + 1, 2, none⟩) (Blk.far (p := ⟨w.heap.size + 1 + 1 + 1, 2, none⟩) (Blk.far (p := ⟨w.heap.size + 1 + 1 + 1, 1, none⟩) (Blk.far (p := ⟨w.heap.size + 1 + 1 + 1, 0, none⟩) Y0.out (show w.heap.size ≠ w.heap.size + 1 + 1 + 1 by omega) (.slice FA n1 fc)) (show w.heap.size ≠ w.heap.size + 1 + 1 + 1 by omega) (.slice EA n2 ec)) (show w.heap.size ≠ w.heap.size + 1 + 1 + 1 by omega) (.int .i64 (plC (f x.1).z uz))) (show w.heap.size ≠ w.heap.size + 1 + 1 + 1 by omega) (.int .i64 0)), (Blk.far (p := ⟨w.heap.size + 1 + 1 + 1, 2, none⟩) (Blk.far (p := ⟨w.heap.size + 1 + 1 + 1, 2, none⟩) (Blk.far (p := ⟨w.heap.size + 1 + 1 + 1, 1, none⟩) (Blk.far (p := ⟨w.heap.size + 1 + 1 + 1, 0, none⟩) Y1.out (show w.heap.size + 1 ≠ w.heap.size + 1 + 1 + 1 by omega) (.slice FA n1 fc)) (show w.heap.size + 1 ≠ w.heap.size + 1 + 1 + 1 by omega) (.slice EA n2 ec)) (show w.heap.size + 1 ≠ w.heap.size + 1 + 1 + 1 by omega) (.int .i64 (plC (f x.1).z uz))) (show w.heap.size + 1 ≠ w.heap.size + 1 + 1 + 1 by omega) (.int .i64 0)), (Blk.far (p := ⟨w.heap.size + 1 + 1 + 1, 2, none⟩) (Blk.far (p := ⟨w.heap.size + 1 + 1 + 1, 2, none⟩) (Blk.far (p := ⟨w.heap.size + 1 + 1 + 1, 1, none⟩) (Blk.far (p := ⟨w.heap.size + 1 + 1 + 1, 0, none⟩) Y2.out (show w.heap.size + 1 + 1 ≠ w.heap.size + 1 + 1 + 1 by omega) (.slice FA n1 fc)) (show w.heap.size + 1 + 1 ≠ w.heap.size + 1 + 1 + 1 by omega) (.slice EA n2 ec)) (show w.heap.size + 1 + 1 ≠ w.heap.size + 1 + 1 + 1 by omega) (.int .i64 (plC (f x.1).z uz))) (show w.heap.size + 1 + 1 ≠ w.heap.size + 1 + 1 + 1 by omega) (.int .i64 0)), ⟨FA, fc, EA, ec, ?_, ?_, ?_⟩, ((((HMK.out.far (G := w.heap.size + 1 + 1 + 1) (by omega) (HOW.out _ (by omega)) (j := 0) (.slice FA n1 fc)).far (G := w.heap.size + 1 + 1 + 1) (by omega) (HOW.out _ (by omega)) (j := 1) (.slice EA n2 ec)).far (G := w.heap.size + 1 + 1 + 1) (by omega) (HOW.out _ (by omega)) (j := 2) (.int .i64 (plC (f x.1).z uz))).far (G := w.heap.size + 1 + 1 + 1) (by omega) (HOW.out _ (by omega)) (j := 2) (.int .i64 0)), (((((HI.out.fr.trans HFR.out).new hBB (p := ⟨w.heap.size + 1 + 1 + 1, 0, none⟩) (show w.heap.size <= w.heap.size + 1 + 1 + 1 by omega) (.slice FA n1 fc)).new hBB (p := ⟨w.heap.size + 1 + 1 + 1, 1, none⟩) (show w.heap.size <= w.heap.size + 1 + 1 + 1 by omega) (.slice EA n2 ec)).new hBB (p := ⟨w.heap.size + 1 + 1 + 1, 2, none⟩) (show w.heap.size <= w.heap.size + 1 + 1 + 1 by omega) (.int .i64 (plC (f x.1).z uz))).new hBB (p := ⟨w.heap.size + 1 + 1 + 1, 2, none⟩) (show w.heap.size <= w.heap.size + 1 + 1 + 1 by omega) (.int .i64 0)), by simp; omega⟩
    ·show Blk _ _ _ #[.slice FA (FF x.1 ++ plusD (U pre).F (f x.1).z).length fc, .slice EA (plusD (EE x.1) (U pre).z ++ (U pre).E).length ec, .int .i64 (if lo <= x.1 then 0 else plC (f x.1).z (U pre).z)]
     rw [huz, HN1.out, HN2.out, hlz]
     simpa using hb3
    ·show DoorsV _ _ (.slice FA (FF x.1 ++ plusD (U pre).F (f x.1).z).length fc) (FF x.1 ++ plusD (U pre).F (f x.1).z)
     rw [HN1.out]; exact hq1
    ·show DoorsV _ _ (.slice EA (plusD (EE x.1) (U pre).z ++ (U pre).E).length ec) (plusD (EE x.1) (U pre).z ++ (U pre).E)
     rw [huz, HN2.out]; exact hq2
   ·refine ⟨((((FrM.keeps HFR.out HI.out.kk.sets (show T <= W0.heap.size by omega)).trans ((KeepsOthers.setCell _ _ _).from _)).trans ((KeepsOthers.setCell _ _ _).from _)).trans ((KeepsOthers.setCell _ _ _).from _)), ⟨((Below.heap_setCell _ ⟨w.heap.size + 1 + 1 + 1, 2, none⟩ (.int .i64 (plC (f x.1).z uz)) (b9) (show b9 ≠ w.heap.size + 1 + 1 + 1 by omega)).trans ((Below.heap_setCell _ ⟨w.heap.size + 1 + 1 + 1, 1, none⟩ (.slice EA n2 ec) (b9) (show b9 ≠ w.heap.size + 1 + 1 + 1 by omega)).trans ((Below.heap_setCell _ ⟨w.heap.size + 1 + 1 + 1, 0, none⟩ (.slice FA n1 fc) (b9) (show b9 ≠ w.heap.size + 1 + 1 + 1 by omega)).trans Y9.out))), ((Below.heap_setCell _ ⟨w.heap.size + 1 + 1 + 1, 2, none⟩ (.int .i64 (plC (f x.1).z uz)) (w.heap.size + 1 + 1 + 1 + 1) (show w.heap.size + 1 + 1 + 1 + 1 ≠ w.heap.size + 1 + 1 + 1 by omega)).trans ((Below.heap_setCell _ ⟨w.heap.size + 1 + 1 + 1, 1, none⟩ (.slice EA n2 ec) (w.heap.size + 1 + 1 + 1 + 1) (show w.heap.size + 1 + 1 + 1 + 1 ≠ w.heap.size + 1 + 1 + 1 by omega)).trans ((Below.heap_setCell _ ⟨w.heap.size + 1 + 1 + 1, 0, none⟩ (.slice FA n1 fc) (w.heap.size + 1 + 1 + 1 + 1) (show w.heap.size + 1 + 1 + 1 + 1 ≠ w.heap.size + 1 + 1 + 1 by omega)).trans Y4.out)))⟩, ?_⟩
    have hb3 := (((Y3.out.set_ 0 (.slice FA n1 fc)).set_ 1 (.slice EA n2 ec)).set_ 2 (.int .i64 (plC (f x.1).z uz)))
    have hq1 := ((((HPF.out.low (p := ⟨w.heap.size + 1 + 1 + 1, 0, none⟩) (show w.heap.size + 1 + 1 + 1 < W.heap.size by omega) (.slice FA n1 fc)).low (p := ⟨w.heap.size + 1 + 1 + 1, 1, none⟩) (show w.heap.size + 1 + 1 + 1 < W.heap.size by omega) (.slice EA n2 ec)).low (p := ⟨w.heap.size + 1 + 1 + 1, 2, none⟩) (show w.heap.size + 1 + 1 + 1 < W.heap.size by omega) (.int .i64 (plC (f x.1).z uz)))).sub (S1 := fun g => w.heap.size + 5 <= g /\ Left_ T sv g) (fun g h => ⟨by omega, h.2⟩)
    have hq2 := ((((HPE.out.low (p := ⟨w.heap.size + 1 + 1 + 1, 0, none⟩) (show w.heap.size + 1 + 1 + 1 < W.heap.size by omega) (.slice FA n1 fc)).low (p := ⟨w.heap.size + 1 + 1 + 1, 1, none⟩) (show w.heap.size + 1 + 1 + 1 < W.heap.size by omega) (.slice EA n2 ec)).low (p := ⟨w.heap.size + 1 + 1 + 1, 2, none⟩) (show w.heap.size + 1 + 1 + 1 < W.heap.size by omega) (.int .i64 (plC (f x.1).z uz)))).sub (S1 := fun g => w.heap.size + 5 <= g /\ Left_ T sv g) (fun g h => ⟨by omega, h.2⟩)
    show UpAt w B T b N sv S cv g0 o0 cc R dv rv lo (U (pre ++ [x])) _
    rw [HST.out]
    have hlz : (if lo <= x.1 then 0 else plC (f x.1).z uz) = plC (f x.1).z uz := if_neg (by omega)
    refine ⟨(Blk.far (p := ⟨w.heap.size + 1 + 1 + 1, 2, none⟩) (Blk.far (p := ⟨w.heap.size + 1 + 1 + 1, 1, none⟩) (Blk.far (p := ⟨w.heap.size + 1 + 1 + 1, 0, none⟩) Y0.out (show w.heap.size ≠ w.heap.size + 1 + 1 + 1 by omega) (.slice FA n1 fc)) (show w.heap.size ≠ w.heap.size + 1 + 1 + 1 by omega) (.slice EA n2 ec)) (show w.heap.size ≠ w.heap.size + 1 + 1 + 1 by omega) (.int .i64 (plC (f x.1).z uz))), (Blk.far (p := ⟨w.heap.size + 1 + 1 + 1, 2, none⟩) (Blk.far (p := ⟨w.heap.size + 1 + 1 + 1, 1, none⟩) (Blk.far (p := ⟨w.heap.size + 1 + 1 + 1, 0, none⟩) Y1.out (show w.heap.size + 1 ≠ w.heap.size + 1 + 1 + 1 by omega) (.slice FA n1 fc)) (show w.heap.size + 1 ≠ w.heap.size + 1 + 1 + 1 by omega) (.slice EA n2 ec)) (show w.heap.size + 1 ≠ w.heap.size + 1 + 1 + 1 by omega) (.int .i64 (plC (f x.1).z uz))), (Blk.far (p := ⟨w.heap.size + 1 + 1 + 1, 2, none⟩) (Blk.far (p := ⟨w.heap.size + 1 + 1 + 1, 1, none⟩) (Blk.far (p := ⟨w.heap.size + 1 + 1 + 1, 0, none⟩) Y2.out (show w.heap.size + 1 + 1 ≠ w.heap.size + 1 + 1 + 1 by omega) (.slice FA n1 fc)) (show w.heap.size + 1 + 1 ≠ w.heap.size + 1 + 1 + 1 by omega) (.slice EA n2 ec)) (show w.heap.size + 1 + 1 ≠ w.heap.size + 1 + 1 + 1 by omega) (.int .i64 (plC (f x.1).z uz))), ⟨FA, fc, EA, ec, ?_, ?_, ?_⟩, (((HMK.out.far (G := w.heap.size + 1 + 1 + 1) (by omega) (HOW.out _ (by omega)) (j := 0) (.slice FA n1 fc)).far (G := w.heap.size + 1 + 1 + 1) (by omega) (HOW.out _ (by omega)) (j := 1) (.slice EA n2 ec)).far (G := w.heap.size + 1 + 1 + 1) (by omega) (HOW.out _ (by omega)) (j := 2) (.int .i64 (plC (f x.1).z uz))), ((((HI.out.fr.trans HFR.out).new hBB (p := ⟨w.heap.size + 1 + 1 + 1, 0, none⟩) (show w.heap.size <= w.heap.size + 1 + 1 + 1 by omega) (.slice FA n1 fc)).new hBB (p := ⟨w.heap.size + 1 + 1 + 1, 1, none⟩) (show w.heap.size <= w.heap.size + 1 + 1 + 1 by omega) (.slice EA n2 ec)).new hBB (p := ⟨w.heap.size + 1 + 1 + 1, 2, none⟩) (show w.heap.size <= w.heap.size + 1 + 1 + 1 by omega) (.int .i64 (plC (f x.1).z uz))), by simp; omega⟩
    ·show Blk _ _ _ #[.slice FA (FF x.1 ++ plusD (U pre).F (f x.1).z).length fc, .slice EA (plusD (EE x.1) (U pre).z ++ (U pre).E).length ec, .int .i64 (if lo <= x.1 then 0 else plC (f x.1).z (U pre).z)]
     rw [huz, HN1.out, HN2.out, hlz]
     simpa using hb3
    ·show DoorsV _ _ (.slice FA (FF x.1 ++ plusD (U pre).F (f x.1).z).length fc) (FF x.1 ++ plusD (U pre).F (f x.1).z)
     rw [HN1.out]; exact hq1
    ·show DoorsV _ _ (.slice EA (plusD (EE x.1) (U pre).z ++ (U pre).E).length ec) (plusD (EE x.1) (U pre).z ++ (U pre).E)
     rw [huz, HN2.out]; exact hq2
  case done =>
   rintro D zs W hD rfl hI hK
   have hz := hI.sz
   obtain ⟨A1, k1, A2, k2, xr, hd1, hd2⟩ := hI.p
   obtain ⟨nF, hnF⟩ : ∃ n, (U (backs len len)).F.length = n := ⟨_, rfl⟩
   obtain ⟨nE, hnE⟩ : ∃ n, (U (backs len len)).E.length = n := ⟨_, rfl⟩
   obtain ⟨uz, huz⟩ : ∃ n, (U (backs len len)).z = n := ⟨_, rfl⟩
   rw [hnF] at hd1 xr
   rw [hnE] at hd2 xr
   rw [huz] at xr
   have r0 := Blk.cell xr 0; have r1 := Blk.cell xr 1; have r2 := Blk.cell xr 2
   have s0 := Blk.cell hI.r 0; have s1 := Blk.cell hI.r 1; have s2 := Blk.cell hI.r 2
   have fs0 := Blk.frozen hI.r 0; have fs1 := Blk.frozen hI.r 1; have fs2 := Blk.frozen hI.r 2
   simp only [List.getElem?_toArray, List.getElem?_cons_zero, List.getElem?_cons_succ] at r0 r1 r2 s0 s1 s2
   have HI := Lib.hid hI; have HD1 := Lib.hid hd1; have HD2 := Lib.hid hd2; have HK := Lib.hid hK; have HNF := Lib.hid hnF; have HNE := Lib.hid hnE; have HUZ := Lib.hid huz; have HP := Lib.hid hp; have HM0 := Lib.hid hm
   clear hI xr hd1 hd2 hK hnF hnE huz hp hc hUok hUs hm x0 x1 x2 x3 x4 hgb hM
   gi_wp2
   have hKX := (((KeepsOthers.setCell W ⟨w.heap.size + 1 + 1, 0, none⟩ (.slice A1 nF k1)).trans (KeepsOthers.setCell _ ⟨w.heap.size + 1 + 1, 1, none⟩ (.slice A2 nE k2))).trans (KeepsOthers.setCell _ ⟨w.heap.size + 1 + 1, 2, none⟩ (.int .i64 uz))).same D _ HK.out rfl
   refine ⟨by simp, .inl ⟨_, _, rfl, run_takeDeferred hKX, ?_⟩⟩
   have hown2 : sv.ownBlock ≠ some (w.heap.size + 1 + 1) := fun e => by have := (HM0.out.sets.lt _ e).2; omega
   have hb2 := (((HI.out.r.set_ 0 (.slice A1 nF k1)).set_ 1 (.slice A2 nE k2)).set_ 2 (.int .i64 uz))
   have hm2 := (((HI.out.kk.far (G := w.heap.size + 1 + 1) (by omega) hown2 (j := 0) (.slice A1 nF k1)).far (G := w.heap.size + 1 + 1) (by omega) hown2 (j := 1) (.slice A2 nE k2)).far (G := w.heap.size + 1 + 1) (by omega) hown2 (j := 2) (.int .i64 uz))
   have hf2 := (((HI.out.fr.new hBB (p := ⟨w.heap.size + 1 + 1, 0, none⟩) (show w.heap.size <= w.heap.size + 1 + 1 by omega) (.slice A1 nF k1)).new hBB (p := ⟨w.heap.size + 1 + 1, 1, none⟩) (show w.heap.size <= w.heap.size + 1 + 1 by omega) (.slice A2 nE k2)).new hBB (p := ⟨w.heap.size + 1 + 1, 2, none⟩) (show w.heap.size <= w.heap.size + 1 + 1 by omega) (.int .i64 uz))
   have hq1 := (((HD1.out.low (p := ⟨w.heap.size + 1 + 1, 0, none⟩) (show w.heap.size + 1 + 1 < w.heap.size + 5 by omega) (.slice A1 nF k1)).low (p := ⟨w.heap.size + 1 + 1, 1, none⟩) (show w.heap.size + 1 + 1 < w.heap.size + 5 by omega) (.slice A2 nE k2)).low (p := ⟨w.heap.size + 1 + 1, 2, none⟩) (show w.heap.size + 1 + 1 < w.heap.size + 5 by omega) (.int .i64 uz))
   have hq2 := (((HD2.out.low (p := ⟨w.heap.size + 1 + 1, 0, none⟩) (show w.heap.size + 1 + 1 < w.heap.size + 5 by omega) (.slice A1 nF k1)).low (p := ⟨w.heap.size + 1 + 1, 1, none⟩) (show w.heap.size + 1 + 1 < w.heap.size + 5 by omega) (.slice A2 nE k2)).low (p := ⟨w.heap.size + 1 + 1, 2, none⟩) (show w.heap.size + 1 + 1 < w.heap.size + 5 by omega) (.int .i64 uz))
   obtain ⟨X, hX⟩ : ∃ X, ((W.setCell ⟨w.heap.size + 1 + 1, 0, none⟩ (.slice A1 nF k1)).setCell ⟨w.heap.size + 1 + 1, 1, none⟩ (.slice A2 nE k2)).setCell ⟨w.heap.size + 1 + 1, 2, none⟩ (.int .i64 uz) = X := ⟨_, rfl⟩
   rw [hX] at hKX hb2 hm2 hf2 hq1 hq2 ⊢
   have htn : TurnsNone X (some D) := fun r e => by cases e; exact ⟨_, hKX, rfl⟩
   have hgr := grownBy_putObj' X D (.deferred none)
   have hb3 := hb2.turn hgr htn
   have e0 := Blk.cell hb3 0; have e1 := Blk.cell hb3 1; have e2 := Blk.cell hb3 2
   simp at e0 e1 e2
   refine ⟨.agg #[.slice A1 nF k1, .slice A2 nE k2, .int .i64 uz], by simp [results, Tryz.results109, go_sem, e0, e1, e2], _, rfl, ⟨_, _, by rw [HUZ.out], ?_, ?_⟩, hm2.turn hgr htn, hf2.turn hgr hBB (fun r e => by cases e; omega)⟩
   ·exact (hq1.turn hgr htn).sub (fun g h => ⟨by omega, h.2⟩)
   ·exact (hq2.turn hgr htn).sub (fun g h => ⟨by omega, h.2⟩)
  case stop =>
   rintro D c pre W _ _ h _
   exact h.elim
end Go.Proofs.YtfccnadbiglagaaGreat
