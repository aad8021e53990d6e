/- The maker's pieces: what their contracts share. Contract of the maker's repeats: times. Contract of the maker's piece. Contract of side.Make. -/
import Derived.Test.YtfccnadbiglagaaGreatVSideS
import Derived.Test.YtfccnadbiglagaaGreatVSideK
import Derived.Test.YtfccnadbiglagaaGreatVSideA
set_option linter.unusedVariables false
set_option linter.unusedSimpArgs false
set_option maxRecDepth 100000
set_option maxHeartbeats 8000000
namespace Go.Proofs.YtfccnadbiglagaaGreat
open Go Go.RowKit Go.Proofs
section
variable {w w' : World} {B T C : Nat} {sv sv' : Value}
theorem DoorsV.frC {v : Value} {l : List (Int × Int)} (h : DoorsV w (fun g => C <= g /\ Left_ T sv g) v l) (hf : FrM B T w w' sv sv') : DoorsV w' (fun g => C <= g /\ Left_ T sv' g) v l := by
 refine h.keep (fun g hg hlt => ⟨hg.1, hg.2.1, fun e => ?_⟩) (fun g hg hlt i x hx => ?_)
 ·rcases hf.own g e with q | q
  ·exact hg.2.2 q
  ·omega
 ·rw [cell_of_heap (hf.keep g hg.2.1 hlt hg.2.2)]; exact hx
theorem PieceV.frC {v : Value} {F E : List (Int × Int)} {z : Int} (h : PieceV w (fun g => C <= g /\ Left_ T sv g) v F E z) (hf : FrM B T w w' sv sv') : PieceV w' (fun g => C <= g /\ Left_ T sv' g) v F E z := by
 obtain ⟨vf, ve, rfl, h1, h2⟩ := h
 exact ⟨vf, ve, rfl, h1.frC hf, h2.frC hf⟩
theorem PieceV.sub {S S' : Nat -> Prop} {v : Value} {F E : List (Int × Int)} {z : Int} (h : PieceV w S v F E z) (hS : ∀ g, S g -> S' g) : PieceV w S' v F E z := by
 obtain ⟨vf, ve, rfl, h1, h2⟩ := h
 exact ⟨vf, ve, rfl, h1.sub hS, h2.sub hS⟩
theorem PieceV.bel {S : Nat -> Prop} {v : Value} {F E : List (Int × Int)} {z : Int} (h : PieceV w S v F E z) (hb : Below w.heap.size w w') : PieceV w' S v F E z := by
 obtain ⟨vf, ve, rfl, h1, h2⟩ := h
 exact ⟨vf, ve, rfl, h1.bel hb, h2.bel hb⟩
theorem PieceV.low {S : Nat -> Prop} {v : Value} {F E : List (Int × Int)} {z : Int} (h : PieceV w (fun g => C <= g /\ S g) v F E z) {p : Addr} (hp : p.block < C) (u : Value) : PieceV (w.setCell p u) (fun g => C <= g /\ S g) v F E z := by
 obtain ⟨vf, ve, rfl, h1, h2⟩ := h
 exact ⟨vf, ve, rfl, h1.low hp u, h2.low hp u⟩
theorem Names.fr {v : Value} {D : List Bs} (h : Names w (fun g => g < B) v D) (hb : Below B w w') : Names w' (fun g => g < B) v D :=
 h.keep (fun _ h => h) (fun g hg i x hx => by rw [hb.cell (p := ⟨g, i, none⟩) hg]; exact hx)
theorem FrM.blk {g : Nat} {t : TypeId} {cs : Array Value} (hf : FrM B T w w' sv sv') (h : Blk w g t cs) (hT : T <= g) (ho : sv.ownBlock ≠ some g) : Blk w' g t cs := (hf.keep g hT h.lt ho).trans h
theorem FrM.noown {g : Nat} (hf : FrM B T w w' sv sv') (hg : g < w.heap.size) (ho : sv.ownBlock ≠ some g) : sv'.ownBlock ≠ some g := fun e => by
 rcases hf.own g e with q | q
 ·exact ho q
 ·omega
end
theorem MkAt.noown {w : World} {B T b N : Nat} {sv : Value} {S : List Int} {cv : Value} {g0 o0 cc : Nat} {R : Nat -> Nat} {dv rv : Value} {M : Mat} (h : MkAt w B T b N sv S cv g0 o0 cc R dv rv M) : ∀ G, w.heap.size <= G -> sv.ownBlock ≠ some G := fun G hG e => by have := (h.sets.lt _ e).2; omega
def MadeP (w : World) (B T b N : Nat) (sv : Value) (S : List Int) (cv : Value) (g0 o0 cc : Nat) (R : Nat -> Nat) (dv rv : Value) (M : Mat) (a : SideP) (e : Ending) (w' : World) : Prop :=
 ∃ v' sv', e = .returned v' /\ PieceV w' (fun g => w.heap.size <= g /\ Left_ T sv' g) v' (doorsOf S.length a.first) (doorsOf S.length a.ends) a.none_ /\
   MkAt w' B T b N sv' (S ++ a.sets) cv g0 o0 cc R dv rv (putM M S.length a.n a.arc) /\ FrM B T w w' sv sv'
def PieceSpec (D : List Bs) (p : Pat) : Prop :=
 ∀ (w : World) (B T b N : Nat) (sv : Value) (S : List Int) (cv : Value) (g0 o0 cc : Nat) (R : Nat -> Nat) (dv rv : Value) (M : Mat) (v : Value), MkAt w B T b N sv S cv g0 o0 cc R dv rv M -> Names w (fun g => g < B) dv D -> TreeV true w (fun g => g < B) v p.tree ->
   S.length + (sideOf (ixN D) p).n <= N -> FreeM M S.length -> (∀ x y, CostC (M x y)) ->
   Calls Tryz.prog 41 #[.pointer (some ⟨b, 0, none⟩), v] w (MadeP w B T b N sv S cv g0 o0 cc R dv rv M (sideOf (ixN D) p))
end Go.Proofs.YtfccnadbiglagaaGreat
namespace Go.Proofs.YtfccnadbiglagaaGreat
open Go Go.RowKit Go.Proofs
theorem info_piece : (Tryz.prog.info? 87).map (fun i => (i.zero, i.size, i.bytes)) = some (some (.agg #[.slice none 0 0, .slice none 0 0, .int .i64 0]), 3, 56) := by kernel_rfl
def encC (p : PcC) : List Value := [.slice p.fA p.fn p.fc, .slice p.eA p.en p.ec, .int .i64 p.z]
theorem encC_len (p : PcC) : (encC p).length = 3 := rfl
section
variable {w w' : World} {B T C G : Nat} {sv sv' : Value}
theorem MkAt.row {b N : Nat} {S : List Int} {cv : Value} {g0 o0 cc : Nat} {R : Nat -> Nat} {dv rv : Value} {M : Mat} (h : MkAt w B T b N sv S cv g0 o0 cc R dv rv M) (hg : w.grownBy w' (some G)) (hT : T <= G) (ho : sv.ownBlock ≠ some G) :
  MkAt w' B T b N sv S cv g0 o0 cc R dv rv M where
  box := h.box.grown hg (fun e => by injection e with e; have := h.bB.2; omega)
  bB := h.bB
  bg := h.bg
  bR := h.bR
  top := Nat.le_trans h.top hg.size
  sets := h.sets.kept hg (.inr ho)
  small := h.small
  fits := h.fits
  costs := ⟨h.costs.form, h.costs.low, fun i hi => hg.cell (h.costs.cells i hi) (fun e => absurd (show g0 = G by injection e) (by have := h.costs.low (by omega); omega)), h.costs.rows, h.costs.apart, fun i hi => (h.costs.at_ i hi).grown hg (fun e => by injection e with e; have := h.costs.rows i hi; omega)⟩
theorem FrM.row {W : World} (h : FrM B T w W sv sv') (hg : W.grownBy w' (some G)) (hw : B <= w.heap.size) (hG : w.heap.size <= G) : FrM B T w w' sv sv' where
 below := h.below.grown hg (Nat.le_trans hw h.size) (fun k e => by injection e with e; omega)
 size := Nat.le_trans h.size hg.size
 top := h.top
 keep := fun g h1 h2 h3 => by
  rw [hg.block g (Nat.lt_of_lt_of_le h2 h.size) (fun e => by injection e with e; omega)]
  exact h.keep g h1 h2 h3
 own := h.own
theorem DoorsV.frG {v : Value} {l : List (Int × Int)} (h : DoorsV w (fun g => g ≠ G /\ C <= g /\ Left_ T sv g) v l) (hf : FrM B T w w' sv sv') : DoorsV w' (fun g => g ≠ G /\ C <= g /\ Left_ T sv' g) v l := by
 refine h.keep (fun g hg hlt => ⟨hg.1, hg.2.1, hg.2.2.1, fun e => ?_⟩) (fun g hg hlt i x hx => ?_)
 ·rcases hf.own g e with q | q
  ·exact hg.2.2.2 q
  ·omega
 ·rw [cell_of_heap (hf.keep g hg.2.2.1 hlt hg.2.2.2)]; exact hx
theorem PieceV.frG {v : Value} {F E : List (Int × Int)} {z : Int} (h : PieceV w (fun g => g ≠ G /\ C <= g /\ Left_ T sv g) v F E z) (hf : FrM B T w w' sv sv') : PieceV w' (fun g => g ≠ G /\ C <= g /\ Left_ T sv' g) v F E z := by
 obtain ⟨vf, ve, rfl, h1, h2⟩ := h
 exact ⟨vf, ve, rfl, h1.frG hf, h2.frG hf⟩
theorem DoorsV.rowG {G' : Nat} {v : Value} {l : List (Int × Int)} (h : DoorsV w (fun g => g ≠ G /\ C <= g /\ Left_ T sv g) v l) (hg : w.grownBy w' (some G)) (hG : G' = G \/ w.heap.size <= G') : DoorsV w' (fun g => g ≠ G' /\ C <= g /\ Left_ T sv g) v l :=
 h.keep (fun g hg hlt => ⟨fun e => by rcases hG with q | q <;> omega, hg.2⟩) (fun g h1 hlt i x hx => hg.cell hx (fun e => by injection e with e; exact h1.1 e))
theorem PieceV.rowG {G' : Nat} {v : Value} {F E : List (Int × Int)} {z : Int} (h : PieceV w (fun g => g ≠ G /\ C <= g /\ Left_ T sv g) v F E z) (hg : w.grownBy w' (some G)) (hG : G' = G \/ w.heap.size <= G') : PieceV w' (fun g => g ≠ G' /\ C <= g /\ Left_ T sv g) v F E z := by
 obtain ⟨vf, ve, rfl, h1, h2⟩ := h
 exact ⟨vf, ve, rfl, h1.rowG hg hG, h2.rowG hg hG⟩
theorem own_pieces {y : PcC} (h : Blk w G 87 (encC y).toArray) (hC : C <= G) : OwnE encC 87 3 w C (.slice (some ⟨G, 0, none⟩) 1 1) 1 [y] := by
 refine ⟨by simp [encC], .inr ⟨G, 1, (encC y).toArray, rfl, hC, h, ?_⟩⟩
 refine ⟨Nat.le_refl _, by unfold maxLen; omega, by simp [encC], ?_⟩
 simp [encC]
end
structure RoundsAt (W0 : World) (B T b N : Nat) (sv : Value) (S : List Int) (cv : Value) (g0 o0 cc : Nat) (R : Nat -> Nat) (dv rv : Value) (M : Mat) (a : SideP) (i G cap : Nat) (svi : Value) (f : Nat -> PcC) (W : World) : Prop where
 own : OwnE encC 87 3 W W0.heap.size (.slice (some ⟨G, 0, none⟩) (i + 1) cap) (i + 1) ((List.range (i + 1)).map f)
 low : W0.heap.size <= G
 no : svi.ownBlock ≠ some G
 mkd : MkAt W B T b N svi (S ++ (List.replicate (i + 1) a.sets).flatten) cv g0 o0 cc R dv rv (roundsM M S.length a (i + 1))
 fr : FrM B T W0 W sv svi
 pc : ∀ j, j <= i -> PieceV W (fun g => g ≠ G /\ W0.heap.size <= g /\ Left_ T svi g) (.agg #[.slice (f j).fA (f j).fn (f j).fc, .slice (f j).eA (f j).en (f j).ec, .int .i64 (f j).z]) (doorsOf (S.length + j * a.n) a.first) (doorsOf (S.length + j * a.n) a.ends) (f j).z /\ (f j).z = a.none_
theorem RoundsAt.gt {W0 : World} {B T b N : Nat} {sv : Value} {S : List Int} {cv : Value} {g0 o0 cc : Nat} {R : Nat -> Nat} {dv rv : Value} {M : Mat} {a : SideP} {i G cap : Nat} {svi : Value} {f : Nat -> PcC} {W : World} (h : RoundsAt W0 B T b N sv S cv g0 o0 cc R dv rv M a i G cap svi f W) : G < W.heap.size := (h.own.lt G rfl).2
theorem RoundsAt.cells {W0 : World} {B T b N : Nat} {sv : Value} {S : List Int} {cv : Value} {g0 o0 cc : Nat} {R : Nat -> Nat} {dv rv : Value} {M : Mat} {a : SideP} {i G cap : Nat} {svi : Value} {f : Nat -> PcC} {W : World} (h : RoundsAt W0 B T b N sv S cv g0 o0 cc R dv rv M a i G cap svi f W) (j : Nat) (hj : j < i + 1) :
  W.cell? ⟨G, 0 + j * 3, none⟩ = some (.slice (f j).fA (f j).fn (f j).fc) /\ W.cell? ⟨G, 0 + j * 3 + 1, none⟩ = some (.slice (f j).eA (f j).en (f j).ec) /\ W.cell? ⟨G, 0 + j * 3 + 2, none⟩ = some (.int .i64 (f j).z) := by
  rcases h.own.form encC_len (by omega) with ⟨e, -⟩ | ⟨g, c, e, -, -, -, -, hc⟩
  ·cases e
  ·simp only [Value.slice.injEq, Option.some.injEq, Addr.mk.injEq, and_true, true_and] at e
   obtain ⟨rfl, rfl⟩ := e
   have hq := hc j (f j) (by rw [List.getElem?_map, List.getElem?_range hj]; rfl)
   exact ⟨hq 0 _ rfl, hq 1 _ rfl, hq 2 _ rfl⟩
theorem RoundsAt.push {W0 : World} {B T b N : Nat} {sv : Value} {S : List Int} {cv : Value} {g0 o0 cc : Nat} {R : Nat -> Nat} {dv rv : Value} {M : Mat} {a : SideP} {i G cap : Nat} {svi sv2 : Value} {f : Nat -> PcC} {W W2 W9 : World} {y : PcC} {g9 cap9 : Nat} (h : RoundsAt W0 B T b N sv S cv g0 o0 cc R dv rv M a i G cap svi f W) (hB : B <= W0.heap.size)
  (hp : PieceV W2 (fun g => W.heap.size <= g /\ Left_ T sv2 g) (.agg #[.slice (y).fA (y).fn (y).fc, .slice (y).eA (y).en (y).ec, .int .i64 (y).z]) (doorsOf (S ++ (List.replicate (i + 1) a.sets).flatten).length a.first) (doorsOf (S ++ (List.replicate (i + 1) a.sets).flatten).length a.ends) a.none_)
  (hmk : MkAt W2 B T b N sv2 ((S ++ (List.replicate (i + 1) a.sets).flatten) ++ a.sets) cv g0 o0 cc R dv rv (putM (roundsM M S.length a (i + 1)) (S ++ (List.replicate (i + 1) a.sets).flatten).length a.n a.arc)) (hfr : FrM B T W W2 svi sv2)
  (hpu : PushedE encC 87 3 W0.heap.size W2 W9 (.slice (some ⟨G, 0, none⟩) (i + 1) cap) g9 cap9 (i + 1) ((List.range (i + 1)).map f) y) (hz : y.z = a.none_) :
  RoundsAt W0 B T b N sv S cv g0 o0 cc R dv rv M a (i + 1) g9 cap9 sv2 (fun j => if j = i + 1 then y else f j) W9 := by
  have hTG : T <= G := Nat.le_trans h.fr.top h.low
  have hno : sv2.ownBlock ≠ some G := hfr.noown h.gt h.no
  have hgr : W2.grownBy W9 (some G) := hpu.grow
  have hat : g9 = G \/ W2.heap.size <= g9 := by
   rcases hpu.at_ with e | e
   ·left; simpa [Value.ownBlock] using e.symm
   ·exact .inr e
  have hGl := h.gt
  have hln : (S ++ (List.replicate (i + 1) a.sets).flatten).length = S.length + (i + 1) * a.n := by simp [SideP.n]
  rw [hln] at hp hmk
  refine ⟨?_, ?_, ?_, ?_, ?_, ?_⟩
  ·have := hpu.own
   rw [List.range_succ, List.map_append]
   have e : (List.range (i + 1)).map (fun j => if j = i + 1 then y else f j) = (List.range (i + 1)).map f := List.map_congr_left fun j hj => by
    rw [if_neg (by have := List.mem_range.1 hj; omega)]
   rw [e]
   simpa using this
  ·rcases hat with e | e
   ·rw [e]; exact h.low
   ·have := h.fr.size; have := hfr.size; omega
  ·rcases hat with e | e
   ·rw [e]; exact hno
   ·exact hmk.noown _ e
  ·rw [reps_snoc, <- List.append_assoc]
   exact hmk.row hgr hTG hno
  ·exact (h.fr.trans hfr).row hgr hB h.low
  ·intro j hj
   by_cases e : j = i + 1
   ·subst e
    simp only [if_true]
    rw [hz]
    rw [hz] at hp
    exact ⟨(hp.sub (S' := fun g => g ≠ G /\ W0.heap.size <= g /\ Left_ T sv2 g) (fun g hg => ⟨by have := hg.1; omega, by have := hg.1; have := h.fr.size; omega, hg.2⟩)).rowG hgr hat, rfl⟩
   ·simp only [if_neg e]
    obtain ⟨q1, q2⟩ := h.pc j (by omega)
    exact ⟨(q1.frG hfr).rowG hgr hat, q2⟩
theorem PieceV.fresh_ {w w' : World} {S : Nat -> Prop} {v : Value} {F E : List (Int × Int)} {z : Int} (h : PieceV w S v F E z) (hb : Below w.heap.size w w') : PieceV w' (fun g => g ≠ w.heap.size /\ S g) v F E z :=
 h.keep (fun g hg hlt => ⟨by omega, hg⟩) (fun g _ hlt i x hx => by rw [hb.cell (p := ⟨g, i, none⟩) hlt]; exact hx)
theorem RoundsAt.one {W0 : World} {B T b N : Nat} {sv : Value} {S : List Int} {cv : Value} {g0 o0 cc : Nat} {R : Nat -> Nat} {dv rv : Value} {M : Mat} {a : SideP} {sv1 : Value} {w1 W1 : World} {y : PcC} (hB : B <= W0.heap.size)
  (hp : PieceV w1 (fun g => W0.heap.size <= g /\ Left_ T sv1 g) (.agg #[.slice (y).fA (y).fn (y).fc, .slice (y).eA (y).en (y).ec, .int .i64 (y).z]) (doorsOf S.length a.first) (doorsOf S.length a.ends) a.none_) (hmk : MkAt w1 B T b N sv1 (S ++ a.sets) cv g0 o0 cc R dv rv (putM M S.length a.n a.arc)) (hfr : FrM B T W0 w1 sv sv1)
  (hb : Below w1.heap.size w1 W1) (hx : Blk W1 w1.heap.size 87 (encC y).toArray) (hz : y.z = a.none_) :
  RoundsAt W0 B T b N sv S cv g0 o0 cc R dv rv M a 0 w1.heap.size 1 sv1 (fun _ => y) W1 where
  own := own_pieces hx hfr.size
  low := hfr.size
  no := hmk.noown _ (Nat.le_refl _)
  mkd := by
   have := hmk.bel hb
   have e : roundsM M S.length a (0 + 1) = putM M S.length a.n a.arc := by simp [roundsM]
   rw [e]
   simpa using this
  fr := hfr.trans (FrM.quiet hb hmk.top (Nat.le_trans hB hfr.size))
  pc := fun j hj => by
   obtain rfl : j = 0 := by omega
   rw [Nat.zero_mul, Nat.add_zero, hz]
   rw [<- hz] at hp
   rw [hz] at hp
   exact ⟨hp.fresh_ hb, rfl⟩
theorem RoundsAt.all {W0 : World} {B T b N : Nat} {sv : Value} {S : List Int} {cv : Value} {g0 o0 cc : Nat} {R : Nat -> Nat} {dv rv : Value} {M : Mat} {a : SideP} {i G cap : Nat} {svi : Value} {f : Nat -> PcC} {W : World} (h : RoundsAt W0 B T b N sv S cv g0 o0 cc R dv rv M a i G cap svi f W)
  (ha : a.Ok) (hn : S.length + (i + 1) * a.n <= N) (hi : i <= 100) (hf : FreeM M S.length) (hM : ∀ x y, CostC (M x y)) (lo : Nat) (hlo : lo <= 1000000000) :
  Calls Tryz.prog 109 #[.pointer (some ⟨b, 0, none⟩), .slice (some ⟨G, 0, none⟩) (i + 1) cap, .int .i64 lo] W fun e w' => ∃ v', e = .returned v' /\
   PieceV w' (fun g => W.heap.size <= g /\ Left_ T svi g) v' (doorsOf S.length (sTimes a lo (i + 1)).first) (doorsOf S.length (sTimes a lo (i + 1)).ends) (sTimes a lo (i + 1)).none_ /\
   MkAt w' B T b N svi (S ++ (sTimes a lo (i + 1)).sets) cv g0 o0 cc R dv rv (putM M S.length (sTimes a lo (i + 1)).n (sTimes a lo (i + 1)).arc) /\ FrM B T W w' svi svi := by
  have hsm := h.mkd.small
  have hln : ∀ j, j < i + 1 -> S.length + j * a.n + a.n <= N := fun j hj => by
   have : (j + 1) * a.n <= (i + 1) * a.n := Nat.mul_le_mul_right _ (by omega)
   rw [Nat.succ_mul] at this
   omega
  have h1 := upTo_any h.mkd (roundsM_cost hM ha (i + 1)) (f := f) (FF := fun j => doorsOf (S.length + j * a.n) a.first) (EE := fun j => doorsOf (S.length + j * a.n) a.ends) (len := i + 1) (q := a.n) (b9 := G) (off := 0) (cap := cap) (lo := lo) (by omega) hlo
   (fun j hj => by
    obtain ⟨q1, q2⟩ := h.pc j (by omega)
    refine ⟨q1.sub (fun g hg => hg.2.2), doorsOf_doors _ ha.cf _ _ ?_, doorsOf_doors _ ha.ce _ _ ?_, ?_, ?_, ?_⟩
    ·rw [ha.lf]; exact hln j hj
    ·rw [ha.le]; exact hln j hj
    ·rw [q2]; exact ha.cn
    ·have := doorsOf_len a.first (S.length + j * a.n); rw [ha.lf] at this; exact this
    ·have := doorsOf_len a.ends (S.length + j * a.n); rw [ha.le] at this; exact this)
   (by omega) ⟨Nat.le_trans h.fr.top h.low, h.no⟩ h.gt (fun j hj => h.cells j hj)
  have hup := upSt_rounds hM hf ha lo (i + 1) (fun j => doorsOf (S.length + j * a.n) a.first) (fun j => doorsOf (S.length + j * a.n) a.ends) (fun j => (f j).z) (fun _ _ => rfl) (fun _ _ => rfl) (fun j hj => (h.pc j (by omega)).2) (i + 1) (Nat.le_refl _)
  rw [hup] at h1
  simp only [Nat.sub_self, Nat.zero_mul, Nat.add_zero, linkedM_all] at h1
  have hs : (sTimes a lo (i + 1)).sets = (List.replicate (i + 1) a.sets).flatten := reps_sets a lo (i + 1) (i + 1)
  have hnn : (sTimes a lo (i + 1)).n = (i + 1) * a.n := sUp_n a lo (i + 1) (i + 1)
  rw [hs, hnn]
  exact h1
theorem own_slice {w : World} {B n : Nat} {v : Value} {l : List Int} (h : Own w B v n l) : ∃ A c, v = .slice A n c := by
 rcases h.form with ⟨e, e2, _⟩ | ⟨g, cap, e, _⟩
 ·exact ⟨none, 0, by rw [e, e2]⟩
 ·exact ⟨_, _, e⟩
theorem times_any {D : List Bs} {p : Pat} (hsp : PieceSpec D p) {w : World} {B T b N : Nat} {sv : Value} {S : List Int} {cv : Value} {g0 o0 cc : Nat} {R : Nat -> Nat} {dv rv : Value} {M : Mat} (v : Value) (hm : MkAt w B T b N sv S cv g0 o0 cc R dv rv M) (hD : Names w (fun g => g < B) dv D) (hT : TreeV true w (fun g => g < B) v p.tree) (lo hi : Nat) (hlh : lo <= hi) (hhi : hi <= 12)
  (ha : (sideOf (ixN D) p).Ok) (hn : S.length + hi * (sideOf (ixN D) p).n <= N) (hf : FreeM M S.length) (hM : ∀ x y, CostC (M x y)) :
  Calls Tryz.prog 71 #[.pointer (some ⟨b, 0, none⟩), v, .int .i64 lo, .int .i64 hi] w (MadeP w B T b N sv S cv g0 o0 cc R dv rv M (sTimes (sideOf (ixN D) p) lo hi)) := by
  obtain ⟨a, haE⟩ : ∃ a, sideOf (ixN D) p = a := ⟨_, rfl⟩
  have hsp' := hsp
  unfold PieceSpec at hsp'
  rw [haE] at hsp' ha hn ⊢
  obtain ⟨k1, lo1, hi1, wt1, nm, A1, n1, c1, rfl, -⟩ := hT.kinded
  obtain ⟨sA, sc, hsv⟩ : ∃ A c, sv = .slice A S.length c := by
   rcases hm.sets.form with ⟨e, e2, _⟩ | ⟨g, cap, e, _⟩
   ·exact ⟨none, 0, by rw [e, e2]⟩
   ·exact ⟨_, _, e⟩
  obtain ⟨W0, hW0⟩ : ∃ W0, (w.alloc (.cells #[.int .i64 k1, .int .i64 lo1, .int .i64 hi1, .int .i64 wt1, .string nm, .slice A1 n1 c1] 33)).alloc (.cells #[.slice none 0 0, .slice none 0 0, .int .i64 0] 87) = W0 := ⟨_, rfl⟩
  have hb0 : Below w.heap.size w W0 := by rw [<- hW0]; exact ((Below.refl _ _).alloc (Nat.le_refl _) _).alloc (by simp) _
  have hz0 : W0.heap.size = w.heap.size + 2 := by rw [<- hW0]; simp
  have hx0 : Blk W0 w.heap.size 33 #[.int .i64 k1, .int .i64 lo1, .int .i64 hi1, .int .i64 wt1, .string nm, .slice A1 n1 c1] := by rw [<- hW0]; exact Blk.alloc (Blk.new _ _ _) _
  have hx1 : Blk W0 (w.heap.size + 1) 87 #[.slice none 0 0, .slice none 0 0, .int .i64 0] := by
   rw [<- hW0]
   have := Blk.new (w.alloc (.cells #[.int .i64 k1, .int .i64 lo1, .int .i64 hi1, .int .i64 wt1, .string nm, .slice A1 n1 c1] 33)) 87 #[.slice none 0 0, .slice none 0 0, .int .i64 0]
   rwa [World.size_alloc] at this
  have htop := hm.top
  have hB := BB hm.bB hm.top
  have hno := hm.noown
  have hm0 := hm.bel hb0
  have hfr0 : FrM B T w W0 sv sv := FrM.quiet hb0 htop hB
  have hbB : Below B w W0 := hb0.mono hB
  have hD0 := hD.fr hbB
  have hT0 := hT.fr hbB
  obtain ⟨nS, hnS⟩ : ∃ n, S.length = n := ⟨_, rfl⟩
  obtain ⟨an, hanE⟩ : ∃ n, a.n = n := ⟨_, rfl⟩
  have k0 := Blk.cell hm0.box 0
  simp only [List.getElem?_toArray, List.getElem?_cons_zero] at k0
  rw [hsv, hnS] at k0
  have y0 := Blk.cell hx0 0; have y1 := Blk.cell hx0 1; have y2 := Blk.cell hx0 2; have y3 := Blk.cell hx0 3; have y4 := Blk.cell hx0 4; have y5 := Blk.cell hx0 5
  simp only [List.getElem?_toArray, List.getElem?_cons_zero, List.getElem?_cons_succ] at y0 y1 y2 y3 y4 y5
  have lo0 : (0 : Int) <= (lo : Int) := Int.natCast_nonneg _
  have h0i : (0 : Int) <= (hi : Int) := Int.natCast_nonneg _
  have h1i : (hi : Int) <= 12 := by omega
  have HW0 := Lib.hid hW0
  by_cases hz : hi = 0
  ·subst hz
   have hx1' := hx1
   have r0 := Blk.cell hx1 0; have r1 := Blk.cell hx1 1; have r2 := Blk.cell hx1 2
   have fr0 := Blk.frozen hx1 0; have fr1 := Blk.frozen hx1 1; have fr2 := Blk.frozen hx1 2
   simp only [List.getElem?_toArray, List.getElem?_cons_zero, List.getElem?_cons_succ] at r0 r1 r2
   have HM := Lib.hid hm0; have HF := Lib.hid hfr0; have HT := Lib.hid htop; have HB := Lib.hid hB; have HO := Lib.hid hno; have HNS := Lib.hid hnS
   clear hm hD hT hsp hsp' hm0 hfr0 htop hB hno hD0 hT0 hbB hb0 hx0 hx1 hx1' hz0 hsv hnS hanE haE ha hn hf hM k0 y0 y1 y2 y3 y4 y5 hlh hhi
   subst hW0
   go_enter Tryz.func71, Tryz.ntmps71
   go_wp2_with fail
   refine bodyPost_ret (v := .agg #[.slice none 0 0, .slice none 0 0, .int .i64 0]) (by simp [results, Tryz.results71, go_sem, r0, r1, r2]) rfl ⟨_, _, rfl, ⟨_, _, rfl, DoorsV.nil _ _, DoorsV.nil _ _⟩, ?_, HF.out⟩
   show MkAt _ B T b N sv (S ++ []) cv g0 o0 cc R dv rv (putM M S.length 0 (sTimes a lo 0).arc)
   rw [List.append_nil, putM_none]
   exact HM.out
  ·have hpos : 1 <= hi := by omega
   have hposI : ¬ (hi : Int) <= 0 := by omega
   have hmul1 : 1 * an <= hi * an := Nat.mul_le_mul_right _ hpos
   rw [hnS, hanE] at hn
   have hcall := hsp' W0 B T b N sv S cv g0 o0 cc R dv rv M _ hm0 hD0 hT0 (by rw [hnS, hanE]; omega) hf hM
   unfold MadeP at hcall
   rw [<- hW0] at k0 y0 y1 y2 y3 y4 y5
   have HC := Lib.hid hcall; have HM0 := Lib.hid hm0; have HF0 := Lib.hid hfr0; have HT := Lib.hid htop; have HB := Lib.hid hB; have HO := Lib.hid hno; have HNS := Lib.hid hnS; have HAN := Lib.hid hanE
   have HX0 := Lib.hid hx0; have HX1 := Lib.hid hx1; have HZ0 := Lib.hid hz0; have HD0 := Lib.hid hD0; have HT0 := Lib.hid hT0; have HSP := Lib.hid hsp'; have HA := Lib.hid ha; have HN := Lib.hid hn; have HFM := Lib.hid hf; have HCM := Lib.hid hM; have HLH := Lib.hid hlh
   clear hm hD hT hsp hsp' hm0 hfr0 htop hB hno hD0 hT0 hbB hb0 hx0 hx1 hz0 hsv hnS hanE haE ha hn hf hM hcall hW0 hlh hz hmul1
   go_enter Tryz.func71, Tryz.ntmps71
   go_wp2_with fail
   rw [HW0.out]
   refine HC.out.mono ?_
   clear k0 y0 y1 y2 y3 y4 y5
   rintro e w1 ⟨v1, sv1, rfl, hp1, hmk1, hfr1⟩
   obtain ⟨FA, fc, EA, ec, rfl, hpf, hpe, -, -, -, -, -, -⟩ := hp1.parts
   obtain ⟨nf, hnf⟩ : ∃ n, (doorsOf S.length a.first).length = n := ⟨_, rfl⟩
   obtain ⟨ne, hne⟩ : ∃ n, (doorsOf S.length a.ends).length = n := ⟨_, rfl⟩
   obtain ⟨z, hz⟩ : ∃ z, a.none_ = z := ⟨_, rfl⟩
   rw [hnf, hne, hz] at hp1
   rw [hnf, hne, hz]
   obtain ⟨s1A, s1c, hs1⟩ := own_slice hmk1.sets
   obtain ⟨m1, hm1⟩ : ∃ m, (S ++ a.sets).length = m := ⟨_, rfl⟩
   obtain ⟨W1, hW1⟩ : ∃ W1, w1.alloc (.cells #[.slice FA nf fc, .slice EA ne ec, .int .i64 z] 87) = W1 := ⟨_, rfl⟩
   have hb1 : Below w1.heap.size w1 W1 := by rw [<- hW1]; exact (Below.refl _ _).alloc (Nat.le_refl _) _
   have hxp : Blk W1 w1.heap.size 87 #[.slice FA nf fc, .slice EA ne ec, .int .i64 z] := by rw [<- hW1]; exact Blk.new _ _ _
   have hxr : Blk W1 (w.heap.size + 1) 87 #[.slice none 0 0, .slice none 0 0, .int .i64 0] := Blk.below (hfr1.blk HX1.out (Nat.le_trans HT.out (by omega)) (HO.out _ (by omega))) hb1 (by have := HX1.out.lt; have := hfr1.size; omega)
   have hxx : Blk W1 w.heap.size 33 #[.int .i64 k1, .int .i64 lo1, .int .i64 hi1, .int .i64 wt1, .string nm, .slice A1 n1 c1] := Blk.below (hfr1.blk HX0.out HT.out (HO.out _ (Nat.le_refl _))) hb1 (by have := HX0.out.lt; have := hfr1.size; omega)
   have kb : W1.cell? ⟨b, 0, none⟩ = some (.slice s1A m1 s1c) := by
    have := bel_q hb1 (Blk.cell hmk1.box 0)
    rw [hs1, hm1] at this
    exact this
   have q2 := Blk.cell hxp 2
   simp only [List.getElem?_toArray, List.getElem?_cons_zero, List.getElem?_cons_succ] at q2
   rw [<- hW1] at kb q2
   have HW1 := Lib.hid hW1; have HB1 := Lib.hid hb1; have HXP := Lib.hid hxp; have HXR := Lib.hid hxr; have HXX := Lib.hid hxx
   clear hW1 hb1 hxp hxr hxx
   have hm1' : m1 = nS + an := by rw [<- hm1, List.length_append, HNS.out, <- HAN.out]; rfl
   have HPV := Lib.hid hp1; have HM1 := Lib.hid hmk1; have HF1 := Lib.hid hfr1; have HZ := Lib.hid hz; have HME := Lib.hid hm1'
   clear hm1' hp1 hmk1 hfr1 hpf hpe hnf hne hz hs1 hm1
   by_cases han : an = 0
   ·have heq : m1 = nS := by have := HME.out; omega
    subst heq
    have HANZ := Lib.hid han
    clear HME han
    obtain ⟨zn, hzn⟩ : ∃ zn : Nat, z = zn := ⟨z.toNat, by have := HA.out.cn.1; rw [HZ.out] at this; omega⟩
    have hzl : zn <= 1152921504606846976 := by have := HA.out.cn.2; rw [HZ.out] at this; omega
    subst hzn
    have hpr := sprod_any zn lo 1152921504606846976 hzl (Nat.le_refl _) (by have := HLH.out; omega) W1
    rw [show ((1152921504606846976 : Nat) : Int) = 1152921504606846976 from rfl] at hpr
    obtain ⟨pz, hpz⟩ : ∃ pz, prodC zn lo 1152921504606846976 = pz := ⟨_, rfl⟩
    rw [hpz] at hpr
    have HPR := Lib.hid hpr; have HPZ := Lib.hid hpz; have HZL := Lib.hid hzl
    clear hpr hpz hzl
    go_wp2_with fail
    rw [HW1.out]
    refine HPR.out.mono ?_
    rintro e w2 ⟨rfl, rfl⟩
    have r0 := Blk.cell HXR.out 0; have r1 := Blk.cell HXR.out 1; have r2 := Blk.cell HXR.out 2
    have fr0 := Blk.frozen HXR.out 0; have fr1 := Blk.frozen HXR.out 1; have fr2 := Blk.frozen HXR.out 2
    simp only [List.getElem?_toArray, List.getElem?_cons_zero, List.getElem?_cons_succ] at r0 r1 r2
    clear kb q2
    go_wp2_with fail
    have hg : T <= w.heap.size + 1 := Nat.le_trans HT.out (by omega)
    have hsz1 : w.heap.size + 2 <= w1.heap.size := by have := HF1.out.size; have := HZ0.out; omega
    have hoo : sv1.ownBlock ≠ some (w.heap.size + 1) := HF1.out.noown (by have := HZ0.out; omega) (HO.out _ (by omega))
    have hm := (((HM1.out.bel HB1.out).far hg hoo (j := 0) (.slice none 0 0)).far hg hoo (j := 1) (.slice none 0 0)).far hg hoo (j := 2) (.int .i64 (pz : Int))
    have hf0 : FrM B T w W1 sv sv1 := (HF0.out.trans HF1.out).trans (FrM.quiet HB1.out (by omega) (by have := HB.out; omega))
    have hf := ((hf0.new HB.out (p := ⟨w.heap.size + 1, 0, none⟩) (by simp) (.slice none 0 0)).new HB.out (p := ⟨w.heap.size + 1, 1, none⟩) (by simp) (.slice none 0 0)).new HB.out (p := ⟨w.heap.size + 1, 2, none⟩) (by simp) (.int .i64 (pz : Int))
    have han0 : a.n = 0 := by rw [HAN.out]; exact HANZ.out
    obtain ⟨z1, z2, z3, z4⟩ := sUp_zero HA.out han0 lo hi hi
    have z5 := sTimes_none a lo hi zn HZ.out HZL.out HLH.out
    rw [HPZ.out] at z5
    have z6 : (sTimes a lo hi).n = 0 := by rw [sTimes, sUp_n, han0, Nat.mul_zero]
    have z7 : a.sets = [] := List.eq_nil_of_length_eq_zero han0
    have z1' : (sTimes a lo hi).sets = [] := z1
    have z2' : (sTimes a lo hi).first = [] := z2
    have z3' : (sTimes a lo hi).ends = [] := z3
    rw [han0, putM_none, z7] at hm
    refine bodyPost_ret (v := .agg #[.slice none 0 0, .slice none 0 0, .int .i64 (pz : Int)]) (by simp [results, Tryz.results71, go_sem, r0, r1, r2]) rfl ?_
    unfold MadeP
    rw [z1', z2', z3', z5, z6, putM_none]
    exact ⟨_, sv1, rfl, ⟨_, _, rfl, DoorsV.nil _ _, DoorsV.nil _ _⟩, hm, hf⟩
   ·have hne : ¬ m1 = nS := by have := HME.out; omega
    have hneB : ((m1 : Int) == (nS : Int)) = false := by rw [beq_eq_false_iff_ne]; omega
    have hro : RoundsAt W0 B T b N sv S cv g0 o0 cc R dv rv M a 0 w1.heap.size 1 sv1 (fun _ => ⟨FA, nf, fc, EA, ne, ec, z⟩) W1 := RoundsAt.one (by have := HB.out; have := HZ0.out; omega) (by rw [HZ.out]; exact HPV.out) HM1.out HF1.out HB1.out HXP.out HZ.out.symm
    have HRO := Lib.hid hro
    clear hro han HXP HXR HXX HM1 HPV HME
    go_wp2_with fail
    clear kb q2 hne hneB
    rw [HW1.out]
    clear HW1 HB1
    go_loopg [10, 41] (hi - 1) (fun gk v10 v41 wr => ∃ (i G cap : Nat) (svi : Value) (f : Nat -> PcC), v10 = .slice (some ⟨G, 0, none⟩) (i + 1) cap /\ v41 = .int .i64 i /\ gk = hi - 1 - i /\ i <= hi - 1 /\ Hid (RoundsAt W0 B T b N sv S cv g0 o0 cc R dv rv M a i G cap svi f wr))
    case atStart => exact ⟨0, w1.heap.size, 1, sv1, _, rfl, rfl, rfl, Nat.zero_le _, HRO⟩
    case round =>
     clear HRO HF1 HC
     obtain ⟨i, G, cap, svi, f, rfl, rfl, hgk, hi1', HR⟩ := hrel
     have HGK := Lib.hid hgk; clear hgk
     have i0 : (0 : Int) <= (i : Int) := Int.natCast_nonneg _
     by_cases hlt : i < hi - 1
     ·have i1 : (i : Int) < (hi : Int) - 1 := by omega
      have hmul2 : (i + 2) * an <= hi * an := Nat.mul_le_mul_right _ (by omega)
      have hmul3 : (i + 2) * an = (i + 1) * an + an := Nat.succ_mul _ _
      have hln : (S ++ (List.replicate (i + 1) a.sets).flatten).length = S.length + (i + 1) * a.n := by simp [SideP.n]
      have hcall := HSP.out wr B T b N svi (S ++ (List.replicate (i + 1) a.sets).flatten) cv g0 o0 cc R dv rv (roundsM M S.length a (i + 1)) _ HR.out.mkd (HD0.out.fr HR.out.fr.below) (HT0.out.fr HR.out.fr.below)
       (by have := HN.out; rw [hln, HNS.out, HAN.out]; omega) (by rw [hln]; exact roundsM_free HFM.out _) (roundsM_cost HCM.out HA.out _)
      unfold MadeP at hcall
      have hxx : Blk wr w.heap.size 33 #[.int .i64 k1, .int .i64 lo1, .int .i64 hi1, .int .i64 wt1, .string nm, .slice A1 n1 c1] := HR.out.fr.blk HX0.out HT.out (HO.out _ (Nat.le_refl _))
      have x0 := Blk.cell hxx 0; have x1 := Blk.cell hxx 1; have x2 := Blk.cell hxx 2; have x3 := Blk.cell hxx 3; have x4 := Blk.cell hxx 4; have x5 := Blk.cell hxx 5
      simp only [List.getElem?_toArray, List.getElem?_cons_zero, List.getElem?_cons_succ] at x0 x1 x2 x3 x4 x5
      have HC := Lib.hid hcall
      clear hcall hmul2 hmul3 hln hxx
      go_wp2_with fail
      refine HC.out.mono ?_
      clear x0 x1 x2 x3 x4 x5 HC
      rintro e w2 ⟨v2, sv2, rfl, hp2, hmk2, hfr2⟩
      obtain ⟨FA2, fc2, EA2, ec2, rfl, hpf, hpe, -, -, -, -, -, -⟩ := hp2.parts
      obtain ⟨nf2, hnf⟩ : ∃ n, (doorsOf (S ++ (List.replicate (i + 1) a.sets).flatten).length a.first).length = n := ⟨_, rfl⟩
      obtain ⟨ne2, hne⟩ : ∃ n, (doorsOf (S ++ (List.replicate (i + 1) a.sets).flatten).length a.ends).length = n := ⟨_, rfl⟩
      rw [hnf, hne, HZ.out] at hp2
      rw [hnf, hne, HZ.out]
      have ho2 : OwnE encC 87 3 w2 W0.heap.size (.slice (some ⟨G, 0, none⟩) (i + 1) cap) (i + 1) ((List.range (i + 1)).map f) := HR.out.own.same fun g hg => by
       obtain rfl : G = g := by simpa [Value.ownBlock] using hg
       exact hfr2.keep G (Nat.le_trans HR.out.fr.top HR.out.low) HR.out.gt HR.out.no
      have hbs : W0.heap.size <= w2.heap.size := Nat.le_trans HR.out.fr.size hfr2.size
      have hil : i + 1 <= 1000000000 := by omega
      have HP2 := Lib.hid hp2; have HMK2 := Lib.hid hmk2; have HFR2 := Lib.hid hfr2; have HO2 := Lib.hid ho2
      clear hp2 hmk2 hfr2 hpf hpe hnf hne ho2
      go_wp2_with (at_builtin; refine wpList_pushE rfl (.tmp 43) (.tmp 47) 157 rfl 56 _ Tryz.underlying157 info_piece rfl (by omega) (by omega) W0.heap.size w2 (.slice (some ⟨G, 0, none⟩) (i + 1) cap) (i + 1) ((List.range (i + 1)).map f) (⟨FA2, nf2, fc2, EA2, ne2, ec2, z⟩ : PcC) _ rfl rfl (by simp [encC, Value.oneCell']) (by rfl) HO2.out w2.heap.size (by rfl) rfl hil hbs ?_; intro g9 cap9 w9 hp9; have HP9 := Lib.hid hp9; clear hp9)
      go_roundg (hi - 1 - (i + 1))
      case measure => have := HGK.out; omega
      case rel => exact ⟨i + 1, g9, cap9, sv2, _, rfl, by go_num, rfl, by omega, Lib.hid (HR.out.push (by have := HB.out; have := HZ0.out; omega) (by rw [HZ.out]; exact HP2.out) HMK2.out HFR2.out HP9.out HZ.out.symm)⟩
     ·have i1 : ¬ (i : Int) < (hi : Int) - 1 := by omega
      have hie : hi = i + 1 := by omega
      have hall := HR.out.all HA.out (by rw [<- hie, HNS.out, HAN.out]; exact HN.out) (by omega) HFM.out HCM.out lo (by have := HLH.out; omega)
      have HAL := Lib.hid hall
      have hxr : Blk wr (w.heap.size + 1) 87 #[.slice none 0 0, .slice none 0 0, .int .i64 0] := HR.out.fr.blk HX1.out (Nat.le_trans HT.out (by omega)) (HO.out _ (by omega))
      have hoo : svi.ownBlock ≠ some (w.heap.size + 1) := HR.out.fr.noown (by have := HZ0.out; omega) (HO.out _ (by omega))
      have HXR := Lib.hid hxr; have HOO := Lib.hid hoo
      clear hall hie hxr hoo
      go_wp2_with fail
      refine HAL.out.mono ?_
      rintro e w2 ⟨v', rfl, hpv, hmk, hfr⟩
      obtain ⟨FA3, fc3, EA3, ec3, rfl, hpf, hpe, -, -, -, -, -, -⟩ := hpv.parts
      obtain ⟨nf3, hnf⟩ : ∃ n, (doorsOf S.length (sTimes a lo (i + 1)).first).length = n := ⟨_, rfl⟩
      obtain ⟨ne3, hne⟩ : ∃ n, (doorsOf S.length (sTimes a lo (i + 1)).ends).length = n := ⟨_, rfl⟩
      obtain ⟨z3, hz3⟩ : ∃ z, (sTimes a lo (i + 1)).none_ = z := ⟨_, rfl⟩
      rw [hnf, hne, hz3] at hpv
      rw [hnf, hne, hz3]
      have hxk := hfr.blk HXR.out (Nat.le_trans HT.out (by omega)) HOO.out
      have r0 := Blk.cell hxk 0; have r1 := Blk.cell hxk 1; have r2 := Blk.cell hxk 2
      have fr0 := Blk.frozen hxk 0; have fr1 := Blk.frozen hxk 1; have fr2 := Blk.frozen hxk 2
      simp only [List.getElem?_toArray, List.getElem?_cons_zero, List.getElem?_cons_succ] at r0 r1 r2
      have HPV := Lib.hid hpv; have HMK := Lib.hid hmk; have HFR := Lib.hid hfr; have HZ3 := Lib.hid hz3
      clear hpv hmk hfr hpf hpe hnf hne hz3 hxk
      go_wp2_with fail
      have hsz1 : w.heap.size + 2 <= wr.heap.size := by have := HR.out.fr.size; have := HZ0.out; omega
      have hg : T <= w.heap.size + 1 := Nat.le_trans HT.out (by omega)
      have hm := ((HMK.out.far hg HOO.out (j := 0) (.slice FA3 nf3 fc3)).far hg HOO.out (j := 1) (.slice EA3 ne3 ec3)).far hg HOO.out (j := 2) (.int .i64 z3)
      have hf0 := (HF0.out.trans HR.out.fr).trans HFR.out
      have hf := ((hf0.new HB.out (p := ⟨w.heap.size + 1, 0, none⟩) (by simp) (.slice FA3 nf3 fc3)).new HB.out (p := ⟨w.heap.size + 1, 1, none⟩) (by simp) (.slice EA3 ne3 ec3)).new HB.out (p := ⟨w.heap.size + 1, 2, none⟩) (by simp) (.int .i64 z3)
      have hp := ((HPV.out.low (p := ⟨w.heap.size + 1, 0, none⟩) (by show w.heap.size + 1 < wr.heap.size; omega) (.slice FA3 nf3 fc3)).low (p := ⟨w.heap.size + 1, 1, none⟩) (by show w.heap.size + 1 < wr.heap.size; omega) (.slice EA3 ne3 ec3)).low (p := ⟨w.heap.size + 1, 2, none⟩) (by show w.heap.size + 1 < wr.heap.size; omega) (.int .i64 z3)
      refine bodyPost_ret (v := .agg #[.slice FA3 nf3 fc3, .slice EA3 ne3 ec3, .int .i64 z3]) (by simp [results, Tryz.results71, go_sem, r0, r1, r2]) rfl ?_
      unfold MadeP
      rw [show sTimes a lo hi = sTimes a lo (i + 1) from congrArg (sTimes a lo) (by omega), HZ3.out]
      exact ⟨_, svi, rfl, hp.sub (fun g hg => ⟨by omega, hg.2⟩), hm, hf⟩
end Go.Proofs.YtfccnadbiglagaaGreat
namespace Go.Proofs.YtfccnadbiglagaaGreat
open Go Go.RowKit Go.Proofs
structure PieceAt (w : World) (B T b N : Nat) (sv : Value) (cv : Value) (g0 o0 cc : Nat) (R : Nat -> Nat) (dv rv : Value) (rx : Array Value) (W : World) (sv' : Value) (S' : List Int) (M' : Mat) : Prop where
 xb : Blk W w.heap.size 33 rx
 xr : Blk W (w.heap.size + 1) 87 #[.slice none 0 0, .slice none 0 0, .int .i64 0]
 mkd : MkAt W B T b N sv' S' cv g0 o0 cc R dv rv M'
 fr : FrM B T w W sv sv'
 n0 : sv'.ownBlock ≠ some w.heap.size
 n1 : sv'.ownBlock ≠ some (w.heap.size + 1)
 sz : w.heap.size + 2 <= W.heap.size
 bw : B <= w.heap.size
 tw : T <= w.heap.size
section
variable {w : World} {B T b N : Nat} {sv : Value} {cv : Value} {g0 o0 cc : Nat} {R : Nat -> Nat} {dv rv : Value} {rx : Array Value} {W W1 : World} {sv' sv1 : Value} {S' S1 : List Int} {M' M1 : Mat}
theorem PieceAt.start {S : List Int} {M : Mat} (h : MkAt w B T b N sv S cv g0 o0 cc R dv rv M) (rx : Array Value) : PieceAt w B T b N sv cv g0 o0 cc R dv rv rx ((w.alloc (.cells rx 33)).alloc (.cells #[.slice none 0 0, .slice none 0 0, .int .i64 0] 87)) sv S M := by
 have hb : Below w.heap.size w ((w.alloc (.cells rx 33)).alloc (.cells #[.slice none 0 0, .slice none 0 0, .int .i64 0] 87)) := ((Below.refl _ _).alloc (Nat.le_refl _) _).alloc (by simp) _
 have hx := Blk.new (w.alloc (.cells rx 33)) 87 #[.slice none 0 0, .slice none 0 0, .int .i64 0]
 rw [World.size_alloc] at hx
 exact ⟨Blk.alloc (Blk.new _ _ _) _, hx, h.bel hb, FrM.quiet hb h.top (BB h.bB h.top), h.noown _ (Nat.le_refl _), h.noown _ (by omega), by simp, BB h.bB h.top, h.top⟩
theorem PieceAt.bel (h : PieceAt w B T b N sv cv g0 o0 cc R dv rv rx W sv' S' M') (hb : Below W.heap.size W W1) : PieceAt w B T b N sv cv g0 o0 cc R dv rv rx W1 sv' S' M' :=
 ⟨Blk.below h.xb hb h.xb.lt, Blk.below h.xr hb h.xr.lt, h.mkd.bel hb, h.fr.trans (FrM.quiet hb h.mkd.top (Nat.le_trans h.bw (by have := h.sz; omega))), h.n0, h.n1, Nat.le_trans h.sz hb.size, h.bw, h.tw⟩
theorem PieceAt.drew (h : PieceAt w B T b N sv cv g0 o0 cc R dv rv rx W sv' S' M') : PieceAt w B T b N sv cv g0 o0 cc R dv rv rx W.drew sv' S' M' := h.bel (Below.refl _ _).drew
theorem PieceAt.link (h : PieceAt w B T b N sv cv g0 o0 cc R dv rv rx W sv' S' M') (hm : MkAt W1 B T b N sv1 S1 cv g0 o0 cc R dv rv M1) (hf : FrM B T W W1 sv' sv1) : PieceAt w B T b N sv cv g0 o0 cc R dv rv rx W1 sv1 S1 M1 :=
 ⟨hf.blk h.xb h.tw h.n0, hf.blk h.xr (Nat.le_trans h.tw (by omega)) h.n1, hm, h.fr.trans hf, hf.noown (by have := h.sz; omega) h.n0, hf.noown (by have := h.sz; omega) h.n1, Nat.le_trans h.sz hf.size, h.bw, h.tw⟩
theorem PieceAt.belB (h : PieceAt w B T b N sv cv g0 o0 cc R dv rv rx W sv' S' M') : Below B w W := h.fr.below
theorem PieceAt.left (h : PieceAt w B T b N sv cv g0 o0 cc R dv rv rx W sv' S' M') (g : Nat) (hg : W.heap.size <= g) : Left_ T sv' g := ⟨Nat.le_trans h.mkd.top hg, h.mkd.noown g hg⟩
theorem PieceAt.done {C : Nat} {u1 u2 : Value} {F E : List (Int × Int)} {z : Int} (h : PieceAt w B T b N sv cv g0 o0 cc R dv rv rx W sv' S' M') (hp : PieceV W (fun g => C <= g /\ Left_ T sv' g) (.agg #[u1, u2, .int .i64 z]) F E z) (hC : w.heap.size + 2 <= C) :
  PieceV (((W.setCell ⟨w.heap.size + 1, 0, none⟩ u1).setCell ⟨w.heap.size + 1, 1, none⟩ u2).setCell ⟨w.heap.size + 1, 2, none⟩ (.int .i64 z)) (fun g => w.heap.size <= g /\ Left_ T sv' g) (.agg #[u1, u2, .int .i64 z]) F E z /\
   MkAt (((W.setCell ⟨w.heap.size + 1, 0, none⟩ u1).setCell ⟨w.heap.size + 1, 1, none⟩ u2).setCell ⟨w.heap.size + 1, 2, none⟩ (.int .i64 z)) B T b N sv' S' cv g0 o0 cc R dv rv M' /\
   FrM B T w (((W.setCell ⟨w.heap.size + 1, 0, none⟩ u1).setCell ⟨w.heap.size + 1, 1, none⟩ u2).setCell ⟨w.heap.size + 1, 2, none⟩ (.int .i64 z)) sv sv' := by
  have hg : T <= w.heap.size + 1 := Nat.le_trans h.tw (by omega)
  refine ⟨?_, ((h.mkd.far hg h.n1 _).far hg h.n1 _).far hg h.n1 _, ((h.fr.new h.bw (p := ⟨w.heap.size + 1, 0, none⟩) (by simp) _).new h.bw (p := ⟨w.heap.size + 1, 1, none⟩) (by simp) _).new h.bw (p := ⟨w.heap.size + 1, 2, none⟩) (by simp) _⟩
  have h0 : (⟨w.heap.size + 1, 0, none⟩ : Addr).block < C := by show w.heap.size + 1 < C; omega
  have h1 : (⟨w.heap.size + 1, 1, none⟩ : Addr).block < C := by show w.heap.size + 1 < C; omega
  have h2 : (⟨w.heap.size + 1, 2, none⟩ : Addr).block < C := by show w.heap.size + 1 < C; omega
  exact (((hp.low h0 u1).low h1 u2).low h2 (.int .i64 z)).sub (fun g hg => ⟨by omega, hg.2⟩)
end
theorem putM_inf {M : Mat} {o : Nat} (h : FreeM M o) (n : Nat) : putM M o n (fun _ _ => infC) = M := by
 funext x y
 unfold putM
 split
 ·rename_i hxy
  exact (h x y (.inl hxy.1.1)).symm
 ·rfl
theorem ixN_in {s : Bs} : ∀ {D : List Bs}, s ∈ D -> 0 <= ixN D s
 | [], h => by cases h
 | a :: r, h => by
   have := ixN_ge r s
   simp only [ixN]
   split
   ·omega
   ·rename_i hne
    rcases List.mem_cons.1 h with rfl | h
    ·simp at hne
    ·have := ixN_in h
     rw [if_neg (by omega)]
     omega
theorem doorsOf_zero (o : Nat) : doorsOf o [0] = [((o : Int), 0)] := by simp [doorsOf, infC]
theorem cat_first {a b : SideP} (ha : a.Ok) (hb : b.Ok) (o : Nat) : doorsOf o a.first ++ plusD (doorsOf (o + a.n) b.first) a.none_ = doorsOf o (sCat a b).first := by
 rw [plusD_doors' _ ha.cn _ hb.cf]
 show _ = doorsOf o (a.first ++ b.first.map (plC a.none_))
 rw [doorsOf_app, ha.lf]
theorem cat_ends {a b : SideP} (ha : a.Ok) (hb : b.Ok) (o : Nat) : plusD (doorsOf o a.ends) b.none_ ++ doorsOf (o + a.n) b.ends = doorsOf o (sCat a b).ends := by
 rw [plusD_doors _ hb.cn _ ha.ce]
 show _ = doorsOf o (a.ends.map (fun x => plC x b.none_) ++ b.ends)
 rw [doorsOf_app, List.length_map, ha.le]
theorem alt_first {a b : SideP} (ha : a.Ok) (o : Nat) : doorsOf o a.first ++ doorsOf (o + a.n) b.first = doorsOf o (sAlt a b).first := by
 show _ = doorsOf o (a.first ++ b.first)
 rw [doorsOf_app, ha.lf]
theorem alt_ends {a b : SideP} (ha : a.Ok) (o : Nat) : doorsOf o a.ends ++ doorsOf (o + a.n) b.ends = doorsOf o (sAlt a b).ends := by
 show _ = doorsOf o (a.ends ++ b.ends)
 rw [doorsOf_app, ha.le]
theorem doorsF {a : SideP} (ha : a.Ok) {o N : Nat} (h : o + a.n <= N) : Doors N (doorsOf o a.first) /\ Doors N (doorsOf o a.ends) /\ (doorsOf o a.first).length <= a.n /\ (doorsOf o a.ends).length <= a.n := by
 have h1 := doorsOf_len a.first o; have h2 := doorsOf_len a.ends o
 rw [ha.lf] at h1; rw [ha.le] at h2
 exact ⟨doorsOf_doors _ ha.cf _ _ (by rw [ha.lf]; exact h), doorsOf_doors _ ha.ce _ _ (by rw [ha.le]; exact h), h1, h2⟩
theorem piece_none (D : List Bs) : PieceSpec D .none_ := by
 intro w B T b N sv S cv g0 o0 cc R dv rv M v hm hD hT hn hf hM
 obtain ⟨nm, A, n, c, rfl, hnm, hk⟩ := TreeV.six_ (show TreeV true w (fun g => g < B) v (.mk 1 0 0 0 [] []) from hT)
 have hn1 : n <= 1000 := by have := hk.1; simp at this; omega
 have hst := PieceAt.start hm #[.int .i64 1, .int .i64 0, .int .i64 0, .int .i64 0, .string nm, .slice A n c]
 obtain ⟨W0, hW0⟩ : ∃ W0, (w.alloc (.cells #[.int .i64 1, .int .i64 0, .int .i64 0, .int .i64 0, .string nm, .slice A n c] 33)).alloc (.cells #[.slice none 0 0, .slice none 0 0, .int .i64 0] 87) = W0 := ⟨_, rfl⟩
 rw [hW0] at hst
 have hkk : ∀ W, Below B w W -> KidsV true W (fun g => g < B) A n c [] := fun W hW => hk.fr hW
 have hdd : ∀ W, Below B w W -> Names W (fun g => g < B) dv D := fun W hW => hD.fr hW
 have hsm := hm.small
 have hrf : ∀ W, Blk W w.heap.size 33 #[.int .i64 1, .int .i64 0, .int .i64 0, .int .i64 0, .string nm, .slice A n c] -> (fun w' : World => w'.cell? ⟨w.heap.size, 0, none⟩ = some (.int .i64 1) /\ w'.cell? ⟨w.heap.size, 1, none⟩ = some (.int .i64 0) /\ w'.cell? ⟨w.heap.size, 2, none⟩ = some (.int .i64 0) /\ w'.cell? ⟨w.heap.size, 3, none⟩ = some (.int .i64 0) /\ w'.cell? ⟨w.heap.size, 4, none⟩ = some (.string nm) /\ w'.cell? ⟨w.heap.size, 5, none⟩ = some (.slice A n c)) W := fun W hW => ⟨Blk.cell hW 0, Blk.cell hW 1, Blk.cell hW 2, Blk.cell hW 3, Blk.cell hW 4, Blk.cell hW 5⟩
 have HST := Lib.hid hst; have HKK := Lib.hid hkk; have HDD := Lib.hid hdd; have HRF := Lib.hid hrf; have HW0 := Lib.hid hW0; have HN1 := Lib.hid hn1; have HN := Lib.hid hn; have HFM := Lib.hid hf; have HCM := Lib.hid hM; have HSM := Lib.hid hsm; have HNM := Lib.hid hnm
 clear hst hkk hdd hrf hW0 hn1 hn hf hM hm hD hT hk hsm hnm
 obtain rfl := HW0.out
 go_enter Tryz.func41, Tryz.ntmps41
 go_wp2_with fail
 have xr := HST.out.xr
 have r0 := Blk.cell xr 0; have r1 := Blk.cell xr 1; have r2 := Blk.cell xr 2
 simp only [List.getElem?_toArray, List.getElem?_cons_zero, List.getElem?_cons_succ] at r0 r1 r2
 refine bodyPost_ret (v := .agg #[.slice none 0 0, .slice none 0 0, .int .i64 0]) (by simp [results, Tryz.results41, go_sem, r0, r1, r2]) rfl ⟨_, _, rfl, ⟨_, _, rfl, DoorsV.nil _ _, DoorsV.nil _ _⟩, ?_, HST.out.fr⟩
 show MkAt _ B T b N sv (S ++ []) cv g0 o0 cc R dv rv (putM M S.length 0 sNone.arc)
 rw [List.append_nil, putM_none]
 exact HST.out.mkd
theorem piece_any_ (D : List Bs) : PieceSpec D .any_ := by
 intro w B T b N sv S cv g0 o0 cc R dv rv M v hm hD hT hn hf hM
 obtain ⟨nm, A, n, c, rfl, hnm, hk⟩ := TreeV.six_ (show TreeV true w (fun g => g < B) v (.mk 3 0 0 0 [] []) from hT)
 have hn1 : n <= 1000 := by have := hk.1; simp at this; omega
 have hst := PieceAt.start hm #[.int .i64 3, .int .i64 0, .int .i64 0, .int .i64 0, .string nm, .slice A n c]
 obtain ⟨W0, hW0⟩ : ∃ W0, (w.alloc (.cells #[.int .i64 3, .int .i64 0, .int .i64 0, .int .i64 0, .string nm, .slice A n c] 33)).alloc (.cells #[.slice none 0 0, .slice none 0 0, .int .i64 0] 87) = W0 := ⟨_, rfl⟩
 rw [hW0] at hst
 have hkk : ∀ W, Below B w W -> KidsV true W (fun g => g < B) A n c [] := fun W hW => hk.fr hW
 have hdd : ∀ W, Below B w W -> Names W (fun g => g < B) dv D := fun W hW => hD.fr hW
 have hsm := hm.small
 have hrf : ∀ W, Blk W w.heap.size 33 #[.int .i64 3, .int .i64 0, .int .i64 0, .int .i64 0, .string nm, .slice A n c] -> (fun w' : World => w'.cell? ⟨w.heap.size, 0, none⟩ = some (.int .i64 3) /\ w'.cell? ⟨w.heap.size, 1, none⟩ = some (.int .i64 0) /\ w'.cell? ⟨w.heap.size, 2, none⟩ = some (.int .i64 0) /\ w'.cell? ⟨w.heap.size, 3, none⟩ = some (.int .i64 0) /\ w'.cell? ⟨w.heap.size, 4, none⟩ = some (.string nm) /\ w'.cell? ⟨w.heap.size, 5, none⟩ = some (.slice A n c)) W := fun W hW => ⟨Blk.cell hW 0, Blk.cell hW 1, Blk.cell hW 2, Blk.cell hW 3, Blk.cell hW 4, Blk.cell hW 5⟩
 have hS : S.length < N := by have : S.length + 1 <= N := hn; omega
 have hone := one_any hst.mkd (-1) hS
 have HON := Lib.hid hone
 have HST := Lib.hid hst; have HKK := Lib.hid hkk; have HDD := Lib.hid hdd; have HRF := Lib.hid hrf; have HW0 := Lib.hid hW0; have HN1 := Lib.hid hn1; have HN := Lib.hid hn; have HFM := Lib.hid hf; have HCM := Lib.hid hM; have HSM := Lib.hid hsm; have HNM := Lib.hid hnm
 clear hst hkk hdd hrf hW0 hn1 hn hf hM hm hD hT hk hsm hnm hS hone
 go_enter Tryz.func41, Tryz.ntmps41
 go_wp2_with fail
 rw [HW0.out]
 refine HON.out.mono ?_
 rintro e w1 ⟨v1, sv1, rfl, hp, hmk, hfr⟩
 obtain ⟨FA, fc, EA, ec, rfl, hpf, hpe, -, -, -, -, -, -⟩ := hp.parts
 clear hpf hpe
 obtain ⟨nf, hnf⟩ : ∃ n, ([(((S.length : Nat) : Int), (0 : Int))]).length = n := ⟨_, rfl⟩
 rw [hnf] at hp
 rw [hnf]
 clear hnf
 have hat := HST.out.link hmk hfr
 have r0 := Blk.cell hat.xr 0; have r1 := Blk.cell hat.xr 1; have r2 := Blk.cell hat.xr 2
 have fr0 := Blk.frozen hat.xr 0; have fr1 := Blk.frozen hat.xr 1; have fr2 := Blk.frozen hat.xr 2
 simp only [List.getElem?_toArray, List.getElem?_cons_zero, List.getElem?_cons_succ] at r0 r1 r2
 have HAT := Lib.hid hat; have HPV := Lib.hid hp
 clear hat hp hmk hfr
 go_wp2_with fail
 obtain ⟨q1, q2, q3⟩ := HAT.out.done HPV.out (HST.out.sz)
 refine bodyPost_ret (v := .agg #[.slice FA nf fc, .slice EA nf ec, .int .i64 1152921504606846976]) (by simp [results, Tryz.results41, go_sem, r0, r1, r2]) rfl ?_
 unfold MadeP
 show ∃ v' sv', _ = _ /\ PieceV _ _ v' (doorsOf S.length [0]) (doorsOf S.length [0]) infC /\ MkAt _ B T b N sv' (S ++ [-1]) cv g0 o0 cc R dv rv (putM M S.length 1 (fun _ _ => infC)) /\ _
 rw [doorsOf_zero, putM_inf HFM.out]
 exact ⟨_, _, rfl, q1, q2, q3⟩
theorem piece_set (D : List Bs) (s : Bs) (hs : s ∈ D) (hDl : D.length <= 1000) : PieceSpec D (.set s) := by
 intro w B T b N sv S cv g0 o0 cc R dv rv M v hm hD hT hn hf hM
 obtain ⟨nm, A, n, c, rfl, hnm, hk⟩ := TreeV.six_ (show TreeV true w (fun g => g < B) v (.mk 2 0 0 0 s []) from hT)
 have hn1 : n <= 1000 := by have := hk.1; simp at this; omega
 have hst := PieceAt.start hm #[.int .i64 2, .int .i64 0, .int .i64 0, .int .i64 0, .string nm, .slice A n c]
 obtain ⟨W0, hW0⟩ : ∃ W0, (w.alloc (.cells #[.int .i64 2, .int .i64 0, .int .i64 0, .int .i64 0, .string nm, .slice A n c] 33)).alloc (.cells #[.slice none 0 0, .slice none 0 0, .int .i64 0] 87) = W0 := ⟨_, rfl⟩
 rw [hW0] at hst
 have hkk : ∀ W, Below B w W -> KidsV true W (fun g => g < B) A n c [] := fun W hW => hk.fr hW
 have hdd : ∀ W, Below B w W -> Names W (fun g => g < B) dv D := fun W hW => hD.fr hW
 have hsm := hm.small
 have hrf : ∀ W, Blk W w.heap.size 33 #[.int .i64 2, .int .i64 0, .int .i64 0, .int .i64 0, .string nm, .slice A n c] -> (fun w' : World => w'.cell? ⟨w.heap.size, 0, none⟩ = some (.int .i64 2) /\ w'.cell? ⟨w.heap.size, 1, none⟩ = some (.int .i64 0) /\ w'.cell? ⟨w.heap.size, 2, none⟩ = some (.int .i64 0) /\ w'.cell? ⟨w.heap.size, 3, none⟩ = some (.int .i64 0) /\ w'.cell? ⟨w.heap.size, 4, none⟩ = some (.string nm) /\ w'.cell? ⟨w.heap.size, 5, none⟩ = some (.slice A n c)) W := fun W hW => ⟨Blk.cell hW 0, Blk.cell hW 1, Blk.cell hW 2, Blk.cell hW 3, Blk.cell hW 4, Blk.cell hW 5⟩
 have hS : S.length < N := by have : S.length + 1 <= N := hn; omega
 have hnam := named_any hst.mkd (hdd W0 hst.belB) hDl nm hS
 rw [hnm] at hnam
 have h0 := ixN_in hs
 have HNA := Lib.hid hnam; have H0 := Lib.hid h0
 have HST := Lib.hid hst; have HKK := Lib.hid hkk; have HDD := Lib.hid hdd; have HRF := Lib.hid hrf; have HW0 := Lib.hid hW0; have HN1 := Lib.hid hn1; have HN := Lib.hid hn; have HFM := Lib.hid hf; have HCM := Lib.hid hM; have HSM := Lib.hid hsm; have HNM := Lib.hid hnm
 clear hst hkk hdd hrf hW0 hn1 hn hf hM hm hD hT hk hsm hnm hS hnam h0 hs hDl
 go_enter Tryz.func41, Tryz.ntmps41
 go_wp2_with fail
 rw [HW0.out]
 refine HNA.out.mono ?_
 rintro e w1 ⟨v1, sv1, rfl, hfr, h⟩
 obtain ⟨hp, hmk⟩ : PieceV w1 (fun g => W0.heap.size <= g /\ Left_ T sv1 g) v1 [(((S.length : Nat) : Int), (0 : Int))] [(((S.length : Nat) : Int), (0 : Int))] 1152921504606846976 /\ MkAt w1 B T b N sv1 (S ++ [ixN D s]) cv g0 o0 cc R dv rv M := by
  rcases h with ⟨_, h1, h2⟩ | ⟨h1, _⟩
  ·exact ⟨h1, h2⟩
  ·have := H0.out; omega
 clear h
 obtain ⟨FA, fc, EA, ec, rfl, hpf, hpe, -, -, -, -, -, -⟩ := hp.parts
 clear hpf hpe
 obtain ⟨nf, hnf⟩ : ∃ n, ([(((S.length : Nat) : Int), (0 : Int))]).length = n := ⟨_, rfl⟩
 rw [hnf] at hp
 rw [hnf]
 clear hnf
 have hat := HST.out.link hmk hfr
 have r0 := Blk.cell hat.xr 0; have r1 := Blk.cell hat.xr 1; have r2 := Blk.cell hat.xr 2
 have fr0 := Blk.frozen hat.xr 0; have fr1 := Blk.frozen hat.xr 1; have fr2 := Blk.frozen hat.xr 2
 simp only [List.getElem?_toArray, List.getElem?_cons_zero, List.getElem?_cons_succ] at r0 r1 r2
 have HAT := Lib.hid hat; have HPV := Lib.hid hp
 clear hat hp hmk hfr
 go_wp2_with fail
 obtain ⟨q1, q2, q3⟩ := HAT.out.done HPV.out (HST.out.sz)
 refine bodyPost_ret (v := .agg #[.slice FA nf fc, .slice EA nf ec, .int .i64 1152921504606846976]) (by simp [results, Tryz.results41, go_sem, r0, r1, r2]) rfl ?_
 unfold MadeP
 show ∃ v' sv', _ = _ /\ PieceV _ _ v' (doorsOf S.length [0]) (doorsOf S.length [0]) infC /\ MkAt _ B T b N sv' (S ++ [ixN D s]) cv g0 o0 cc R dv rv (putM M S.length 1 (fun _ _ => infC)) /\ _
 rw [doorsOf_zero, putM_inf HFM.out]
 exact ⟨_, _, rfl, q1, q2, q3⟩
theorem piece_cat {D : List Bs} {p q : Pat} (hp : PieceSpec D p) (hq : PieceSpec D q) (oa : (sideOf (ixN D) p).Ok) (ob : (sideOf (ixN D) q).Ok) : PieceSpec D (.cat p q) := by
 intro w B T b N sv S cv g0 o0 cc R dv rv M v hm hD hT hn hf hM
 obtain ⟨nm, A, n, c, rfl, hnm, hk⟩ := TreeV.six_ (show TreeV true w (fun g => g < B) v (.mk 4 0 0 0 [] [p.tree, q.tree]) from hT)
 have hn1 : n <= 1000 := by have := hk.1; simp at this; omega
 have hst := PieceAt.start hm #[.int .i64 4, .int .i64 0, .int .i64 0, .int .i64 0, .string nm, .slice A n c]
 obtain ⟨W0, hW0⟩ : ∃ W0, (w.alloc (.cells #[.int .i64 4, .int .i64 0, .int .i64 0, .int .i64 0, .string nm, .slice A n c] 33)).alloc (.cells #[.slice none 0 0, .slice none 0 0, .int .i64 0] 87) = W0 := ⟨_, rfl⟩
 rw [hW0] at hst
 have hkk : ∀ W, Below B w W -> KidsV true W (fun g => g < B) A n c [p.tree, q.tree] := fun W hW => hk.fr hW
 have hdd : ∀ W, Below B w W -> Names W (fun g => g < B) dv D := fun W hW => hD.fr hW
 have hsm := hm.small
 have hrf : ∀ W, Blk W w.heap.size 33 #[.int .i64 4, .int .i64 0, .int .i64 0, .int .i64 0, .string nm, .slice A n c] -> (fun w' : World => w'.cell? ⟨w.heap.size, 0, none⟩ = some (.int .i64 4) /\ w'.cell? ⟨w.heap.size, 1, none⟩ = some (.int .i64 0) /\ w'.cell? ⟨w.heap.size, 2, none⟩ = some (.int .i64 0) /\ w'.cell? ⟨w.heap.size, 3, none⟩ = some (.int .i64 0) /\ w'.cell? ⟨w.heap.size, 4, none⟩ = some (.string nm) /\ w'.cell? ⟨w.heap.size, 5, none⟩ = some (.slice A n c)) W := fun W hW => ⟨Blk.cell hW 0, Blk.cell hW 1, Blk.cell hW 2, Blk.cell hW 3, Blk.cell hW 4, Blk.cell hW 5⟩
 obtain ⟨a, haE⟩ : ∃ a, sideOf (ixN D) p = a := ⟨_, rfl⟩
 obtain ⟨d, hdE⟩ : ∃ d, sideOf (ixN D) q = d := ⟨_, rfl⟩
 have hp' := hp; have hq' := hq
 unfold PieceSpec at hp' hq'
 rw [haE] at hp' oa; rw [hdE] at hq' ob
 have hn' : S.length + (a.n + d.n) <= N := by rw [<- haE, <- hdE]; have e : (sideOf (ixN D) (.cat p q)).n = (sideOf (ixN D) p).n + (sideOf (ixN D) q).n := sCat_n _ _; rw [<- e]; exact hn
 have hgoal : sideOf (ixN D) (.cat p q) = sCat a d := by rw [<- haE, <- hdE]; rfl
 rw [hgoal]
 have HP := Lib.hid hp'; have HQ := Lib.hid hq'; have HA := Lib.hid oa; have HD := Lib.hid ob; have HNN := Lib.hid hn'
 clear hp' hq' oa ob hn' hgoal haE hdE
 have HST := Lib.hid hst; have HKK := Lib.hid hkk; have HDD := Lib.hid hdd; have HRF := Lib.hid hrf; have HW0 := Lib.hid hW0; have HN1 := Lib.hid hn1; have HN := Lib.hid hn; have HFM := Lib.hid hf; have HCM := Lib.hid hM; have HSM := Lib.hid hsm; have HNM := Lib.hid hnm
 clear hst hkk hdd hrf hW0 hn1 hn hf hM hm hD hT hk hsm hnm hp hq
 go_enter Tryz.func41, Tryz.ntmps41
 go_wp2_with fail
 rw [HW0.out]
 refine region_x 10 (fun w' : World => w'.cell? ⟨w.heap.size, 0, none⟩ = some (.int .i64 4) /\ w'.cell? ⟨w.heap.size, 1, none⟩ = some (.int .i64 0) /\ w'.cell? ⟨w.heap.size, 2, none⟩ = some (.int .i64 0) /\ w'.cell? ⟨w.heap.size, 3, none⟩ = some (.int .i64 0) /\ w'.cell? ⟨w.heap.size, 4, none⟩ = some (.string nm) /\ w'.cell? ⟨w.heap.size, 5, none⟩ = some (.slice A n c)) (by kernel_rfl) ?_
 have hat0 := HST.out.drew
 have hS := HRF.out _ hat0.xb
 obtain ⟨V0, eV⟩ : ∃ W', W0.drew = W' := ⟨_, rfl⟩
 rw [eV] at hat0 hS ⊢
 clear eV
 refine tkx (i := 0) (v := ?_) hS ?_ ?_
 rotate_left
 ·rintro w' ⟨b0, b1, b2, b3, b4, b5⟩
  go_simp
  try with_reducible rfl
 try simp only [Act.put, zq1, zq2, zq3, zq4, zq5, zq6]
 refine tkx (i := 1) (v := ?_) hS ?_ ?_
 rotate_left
 ·rintro w' ⟨b0, b1, b2, b3, b4, b5⟩
  go_simp
  try with_reducible rfl
 try simp only [Act.put, zq1, zq2, zq3, zq4, zq5, zq6]
 refine tkx (i := 2) (v := ?_) hS ?_ ?_
 rotate_left
 ·rintro w' ⟨b0, b1, b2, b3, b4, b5⟩
  go_simp
  try with_reducible rfl
 try simp only [Act.put, zq1, zq2, zq3, zq4, zq5, zq6]
 refine tkx (i := 5) (v := ?_) hS ?_ ?_
 rotate_left
 ·rintro w' ⟨b0, b1, b2, b3, b4, b5⟩
  go_simp
  try with_reducible rfl
 try simp only [Act.put, zq1, zq2, zq3, zq4, zq5, zq6]
 refine tkx (i := 6) (v := ?_) hS ?_ ?_
 rotate_left
 ·rintro w' ⟨b0, b1, b2, b3, b4, b5⟩
  go_simp
  try with_reducible rfl
 try simp only [Act.put, zq1, zq2, zq3, zq4, zq5, zq6]
 refine anyX_g (i := 3) (by kernel_rfl) (by decide) rfl (by rfl) ?_
 intro K hK
 try simp only [zq1, zq2, zq3]
 refine wp_enterE #[.agg #[.int .i64 4, .int .i64 0, .int .i64 0, .int .i64 0, .string nm, .slice A n c], .int .i64 0] Tryz.func45 (by kernel_rfl) (by kernel_rfl) ?_ (schild_ok V0 (fun g => g < B) 4 0 0 0 nm A n c [p.tree, q.tree] 0 (by simp) (HKK.out _ hat0.belB) 0 rfl HN1.out) ?_
 ·go_simp
 rintro e w1 ⟨va, rfl, hva, hb1⟩
 refine ⟨_, rfl, ?_⟩
 have hat1 := hat0.bel hb1
 have hS1 := HRF.out _ hat1.xb
 have hca := HP.out w1 B T b N sv (S) cv g0 o0 cc R dv rv (M) va hat1.mkd (HDD.out _ hat1.belB) hva (by have := HNN.out; omega) HFM.out HCM.out
 clear hb1 hva
 refine hK _ _ hS1 ?_
 clear hK
 try simp only [Act.put, zq1, zq2, zq3, zq4, zq5, zq6]
 refine anyX_g (i := 4) (by kernel_rfl) (by decide) rfl (by rfl) ?_
 intro K hK
 try simp only [zq1, zq2, zq3]
 refine wp_enterE #[.pointer (some ⟨b, 0, none⟩), va] Tryz.func41 (by kernel_rfl) (by kernel_rfl) ?_ (hca) ?_
 ·go_simp
 rintro e w2 ⟨v2, sv2, rfl, hp2, hmk2, hfr2⟩
 refine ⟨_, rfl, ?_⟩
 have hat2 := hat1.link hmk2 hfr2
 have hS2 := HRF.out _ hat2.xb
 clear hca hfr2 hmk2
 refine hK _ _ hS2 ?_
 clear hK
 try simp only [Act.put, zq1, zq2, zq3, zq4, zq5, zq6]
 refine anyX_g (i := 7) (by kernel_rfl) (by decide) rfl (by rfl) ?_
 intro K hK
 try simp only [zq1, zq2, zq3]
 refine wp_enterE #[.agg #[.int .i64 4, .int .i64 0, .int .i64 0, .int .i64 0, .string nm, .slice A n c], .int .i64 1] Tryz.func45 (by kernel_rfl) (by kernel_rfl) ?_ (schild_ok w2 (fun g => g < B) 4 0 0 0 nm A n c [p.tree, q.tree] 1 (by simp) (HKK.out _ hat2.belB) 1 rfl HN1.out) ?_
 ·go_simp
 rintro e w3 ⟨vb, rfl, hvb, hb3⟩
 refine ⟨_, rfl, ?_⟩
 have hat3 := hat2.bel hb3
 have hS3 := HRF.out _ hat3.xb
 have hp3 := hp2.bel hb3
 have hsl : (S ++ a.sets).length = S.length + a.n := by simp [SideP.n]
 have hcb := HQ.out w3 B T b N sv2 (S ++ a.sets) cv g0 o0 cc R dv rv (putM M S.length a.n a.arc) vb hat3.mkd (HDD.out _ hat3.belB) hvb (by rw [hsl]; have := HNN.out; omega) (by rw [hsl]; exact HFM.out.put) (putM_cost HCM.out HA.out.ca)
 clear hb3 hvb hp2
 refine hK _ _ hS3 ?_
 clear hK
 try simp only [Act.put, zq1, zq2, zq3, zq4, zq5, zq6]
 refine anyX_g (i := 8) (by kernel_rfl) (by decide) rfl (by rfl) ?_
 intro K hK
 try simp only [zq1, zq2, zq3]
 refine wp_enterE #[.pointer (some ⟨b, 0, none⟩), vb] Tryz.func41 (by kernel_rfl) (by kernel_rfl) ?_ (hcb) ?_
 ·go_simp
 rintro e w4 ⟨v4, sv4, rfl, hp4, hmk4, hfr4⟩
 refine ⟨_, rfl, ?_⟩
 have hat4 := hat3.link hmk4 hfr4
 have hS4 := HRF.out _ hat4.xb
 have hp2 := hp3.frC hfr4
 rw [hsl] at hat4 hp4
 have hl1 := doorsF HA.out (o := S.length) (N := N) (by have := HNN.out; omega)
 have hl2 := doorsF HD.out (o := S.length + a.n) (N := N) (by have := HNN.out; omega)
 have hl3 := HNN.out; have hl4 := HSM.out
 have hz2 := hat2.sz; have hz4 := hat4.sz; have hz3 := hat3.sz; have hz1 := hat1.sz
 clear hcb hfr4 hmk4 hp3
 refine hK _ _ hS4 ?_
 clear hK
 try simp only [Act.put, zq1, zq2, zq3, zq4, zq5, zq6]
 refine anyX_g (i := 9) (by kernel_rfl) (by decide) rfl (by rfl) ?_
 intro K hK
 try simp only [zq1, zq2, zq3]
 refine wp_enterE #[.pointer (some ⟨b, 0, none⟩), v2, v4] Tryz.func68 (by kernel_rfl) (by kernel_rfl) ?_ (row_any hat4.mkd (hp2.sub (fun g hg => hg.2)) (hp4.sub (fun g hg => hg.2)) hl2.1 hl1.2.1 (putM_cost (putM_cost HCM.out HA.out.ca) HD.out.ca) HA.out.cn HD.out.cn (by omega) (by omega)) ?_
 ·go_simp
 rintro e w5 ⟨v5, rfl, hp5, hmk5, hfr5⟩
 refine ⟨_, rfl, ?_⟩
 have hat5 := hat4.link hmk5 hfr5
 have hS5 := HRF.out _ hat5.xb
 rw [put_cat HCM.out HFM.out HA.out HD.out] at hat5
 rw [cat_first HA.out HD.out, cat_ends HA.out HD.out] at hp5
 have hz5 := hat5.sz
 clear hmk5 hfr5 hp2 hp4 hl1 hl2
 obtain ⟨FA, fc, EA, ec, rfl, hpf, hpe, -, -, -, -, -, -⟩ := hp5.parts
 clear hpf hpe
 obtain ⟨nf, hnf⟩ : ∃ n, (doorsOf S.length (sCat a d).first).length = n := ⟨_, rfl⟩
 obtain ⟨ne, hne⟩ : ∃ n, (doorsOf S.length (sCat a d).ends).length = n := ⟨_, rfl⟩
 obtain ⟨z, hz⟩ : ∃ z, plC a.none_ d.none_ = z := ⟨_, rfl⟩
 rw [hnf, hne, hz] at hp5
 rw [hnf, hne, hz]
 clear hnf hne
 refine hK _ _ hS5 ?_
 clear hK
 try simp only [Act.put, zq1, zq2, zq3, zq4, zq5, zq6]
 have r0 := Blk.cell hat5.xr 0; have r1 := Blk.cell hat5.xr 1; have r2 := Blk.cell hat5.xr 2
 have fr0 := Blk.frozen hat5.xr 0; have fr1 := Blk.frozen hat5.xr 1; have fr2 := Blk.frozen hat5.xr 2
 simp only [List.getElem?_toArray, List.getElem?_cons_zero, List.getElem?_cons_succ] at r0 r1 r2
 have HAT := Lib.hid hat5; have HPV := Lib.hid hp5; have HZ := Lib.hid hz; have HC := Lib.hid hz4
 clear hS hS1 hS2 hS3 hS4 hS5 hat0 hat1 hat2 hat3 hat4 hat5 hp5 hz hz1 hz2 hz3 hz4 hz5 hl3 hl4 hsl
 refine anyX_last (by kernel_rfl) (by kernel_rfl) rfl rfl ?_
 try simp only [zq1, zq2, zq3]
 go_simp
 try apply_assumption
 go_wp2_with fail
 obtain ⟨q1, q2, q3⟩ := HAT.out.done HPV.out (HC.out)
 refine bodyPost_ret (v := .agg #[.slice FA nf fc, .slice EA ne ec, .int .i64 z]) (by simp [results, Tryz.results41, go_sem, r0, r1, r2]) rfl ?_
 unfold MadeP
 rw [sCat_n]
 rw [List.append_assoc] at q2
 show ∃ v' sv', _ = _ /\ PieceV _ _ v' (doorsOf S.length (sCat a d).first) (doorsOf S.length (sCat a d).ends) (plC a.none_ d.none_) /\ _
 rw [HZ.out]
 exact ⟨_, _, rfl, q1, q2, q3⟩
theorem piece_alt {D : List Bs} {p q : Pat} (hp : PieceSpec D p) (hq : PieceSpec D q) (oa : (sideOf (ixN D) p).Ok) (ob : (sideOf (ixN D) q).Ok) : PieceSpec D (.alt p q) := by
 intro w B T b N sv S cv g0 o0 cc R dv rv M v hm hD hT hn hf hM
 obtain ⟨nm, A, n, c, rfl, hnm, hk⟩ := TreeV.six_ (show TreeV true w (fun g => g < B) v (.mk 5 0 0 0 [] [p.tree, q.tree]) from hT)
 have hn1 : n <= 1000 := by have := hk.1; simp at this; omega
 have hst := PieceAt.start hm #[.int .i64 5, .int .i64 0, .int .i64 0, .int .i64 0, .string nm, .slice A n c]
 obtain ⟨W0, hW0⟩ : ∃ W0, (w.alloc (.cells #[.int .i64 5, .int .i64 0, .int .i64 0, .int .i64 0, .string nm, .slice A n c] 33)).alloc (.cells #[.slice none 0 0, .slice none 0 0, .int .i64 0] 87) = W0 := ⟨_, rfl⟩
 rw [hW0] at hst
 have hkk : ∀ W, Below B w W -> KidsV true W (fun g => g < B) A n c [p.tree, q.tree] := fun W hW => hk.fr hW
 have hdd : ∀ W, Below B w W -> Names W (fun g => g < B) dv D := fun W hW => hD.fr hW
 have hsm := hm.small
 have hrf : ∀ W, Blk W w.heap.size 33 #[.int .i64 5, .int .i64 0, .int .i64 0, .int .i64 0, .string nm, .slice A n c] -> (fun w' : World => w'.cell? ⟨w.heap.size, 0, none⟩ = some (.int .i64 5) /\ w'.cell? ⟨w.heap.size, 1, none⟩ = some (.int .i64 0) /\ w'.cell? ⟨w.heap.size, 2, none⟩ = some (.int .i64 0) /\ w'.cell? ⟨w.heap.size, 3, none⟩ = some (.int .i64 0) /\ w'.cell? ⟨w.heap.size, 4, none⟩ = some (.string nm) /\ w'.cell? ⟨w.heap.size, 5, none⟩ = some (.slice A n c)) W := fun W hW => ⟨Blk.cell hW 0, Blk.cell hW 1, Blk.cell hW 2, Blk.cell hW 3, Blk.cell hW 4, Blk.cell hW 5⟩
 obtain ⟨a, haE⟩ : ∃ a, sideOf (ixN D) p = a := ⟨_, rfl⟩
 obtain ⟨d, hdE⟩ : ∃ d, sideOf (ixN D) q = d := ⟨_, rfl⟩
 have hp' := hp; have hq' := hq
 unfold PieceSpec at hp' hq'
 rw [haE] at hp' oa; rw [hdE] at hq' ob
 have hn' : S.length + (a.n + d.n) <= N := by rw [<- haE, <- hdE]; have e : (sideOf (ixN D) (.alt p q)).n = (sideOf (ixN D) p).n + (sideOf (ixN D) q).n := sAlt_n _ _; rw [<- e]; exact hn
 have hgoal : sideOf (ixN D) (.alt p q) = sAlt a d := by rw [<- haE, <- hdE]; rfl
 rw [hgoal]
 have HP := Lib.hid hp'; have HQ := Lib.hid hq'; have HA := Lib.hid oa; have HD := Lib.hid ob; have HNN := Lib.hid hn'
 clear hp' hq' oa ob hn' hgoal haE hdE
 have HST := Lib.hid hst; have HKK := Lib.hid hkk; have HDD := Lib.hid hdd; have HRF := Lib.hid hrf; have HW0 := Lib.hid hW0; have HN1 := Lib.hid hn1; have HN := Lib.hid hn; have HFM := Lib.hid hf; have HCM := Lib.hid hM; have HSM := Lib.hid hsm; have HNM := Lib.hid hnm
 clear hst hkk hdd hrf hW0 hn1 hn hf hM hm hD hT hk hsm hnm hp hq
 go_enter Tryz.func41, Tryz.ntmps41
 go_wp2_with fail
 rw [HW0.out]
 refine region_x 9 (fun w' : World => w'.cell? ⟨w.heap.size, 0, none⟩ = some (.int .i64 5) /\ w'.cell? ⟨w.heap.size, 1, none⟩ = some (.int .i64 0) /\ w'.cell? ⟨w.heap.size, 2, none⟩ = some (.int .i64 0) /\ w'.cell? ⟨w.heap.size, 3, none⟩ = some (.int .i64 0) /\ w'.cell? ⟨w.heap.size, 4, none⟩ = some (.string nm) /\ w'.cell? ⟨w.heap.size, 5, none⟩ = some (.slice A n c)) (by kernel_rfl) ?_
 have hat0 := HST.out.drew
 have hS := HRF.out _ hat0.xb
 obtain ⟨V0, eV⟩ : ∃ W', W0.drew = W' := ⟨_, rfl⟩
 rw [eV] at hat0 hS ⊢
 clear eV
 refine tkx (i := 0) (v := ?_) hS ?_ ?_
 rotate_left
 ·rintro w' ⟨b0, b1, b2, b3, b4, b5⟩
  go_simp
  try with_reducible rfl
 try simp only [Act.put, zq1, zq2, zq3, zq4, zq5, zq6]
 refine tkx (i := 1) (v := ?_) hS ?_ ?_
 rotate_left
 ·rintro w' ⟨b0, b1, b2, b3, b4, b5⟩
  go_simp
  try with_reducible rfl
 try simp only [Act.put, zq1, zq2, zq3, zq4, zq5, zq6]
 refine tkx (i := 4) (v := ?_) hS ?_ ?_
 rotate_left
 ·rintro w' ⟨b0, b1, b2, b3, b4, b5⟩
  go_simp
  try with_reducible rfl
 try simp only [Act.put, zq1, zq2, zq3, zq4, zq5, zq6]
 refine tkx (i := 5) (v := ?_) hS ?_ ?_
 rotate_left
 ·rintro w' ⟨b0, b1, b2, b3, b4, b5⟩
  go_simp
  try with_reducible rfl
 try simp only [Act.put, zq1, zq2, zq3, zq4, zq5, zq6]
 refine anyX_g (i := 2) (by kernel_rfl) (by decide) rfl (by rfl) ?_
 intro K hK
 try simp only [zq1, zq2, zq3]
 refine wp_enterE #[.agg #[.int .i64 5, .int .i64 0, .int .i64 0, .int .i64 0, .string nm, .slice A n c], .int .i64 0] Tryz.func45 (by kernel_rfl) (by kernel_rfl) ?_ (schild_ok V0 (fun g => g < B) 5 0 0 0 nm A n c [p.tree, q.tree] 0 (by simp) (HKK.out _ hat0.belB) 0 rfl HN1.out) ?_
 ·go_simp
 rintro e w1 ⟨va, rfl, hva, hb1⟩
 refine ⟨_, rfl, ?_⟩
 have hat1 := hat0.bel hb1
 have hS1 := HRF.out _ hat1.xb
 have hca := HP.out w1 B T b N sv (S) cv g0 o0 cc R dv rv (M) va hat1.mkd (HDD.out _ hat1.belB) hva (by have := HNN.out; omega) HFM.out HCM.out
 clear hb1 hva
 refine hK _ _ hS1 ?_
 clear hK
 try simp only [Act.put, zq1, zq2, zq3, zq4, zq5, zq6]
 refine anyX_g (i := 3) (by kernel_rfl) (by decide) rfl (by rfl) ?_
 intro K hK
 try simp only [zq1, zq2, zq3]
 refine wp_enterE #[.pointer (some ⟨b, 0, none⟩), va] Tryz.func41 (by kernel_rfl) (by kernel_rfl) ?_ (hca) ?_
 ·go_simp
 rintro e w2 ⟨v2, sv2, rfl, hp2, hmk2, hfr2⟩
 refine ⟨_, rfl, ?_⟩
 have hat2 := hat1.link hmk2 hfr2
 have hS2 := HRF.out _ hat2.xb
 clear hca hfr2 hmk2
 refine hK _ _ hS2 ?_
 clear hK
 try simp only [Act.put, zq1, zq2, zq3, zq4, zq5, zq6]
 refine anyX_g (i := 6) (by kernel_rfl) (by decide) rfl (by rfl) ?_
 intro K hK
 try simp only [zq1, zq2, zq3]
 refine wp_enterE #[.agg #[.int .i64 5, .int .i64 0, .int .i64 0, .int .i64 0, .string nm, .slice A n c], .int .i64 1] Tryz.func45 (by kernel_rfl) (by kernel_rfl) ?_ (schild_ok w2 (fun g => g < B) 5 0 0 0 nm A n c [p.tree, q.tree] 1 (by simp) (HKK.out _ hat2.belB) 1 rfl HN1.out) ?_
 ·go_simp
 rintro e w3 ⟨vb, rfl, hvb, hb3⟩
 refine ⟨_, rfl, ?_⟩
 have hat3 := hat2.bel hb3
 have hS3 := HRF.out _ hat3.xb
 have hp3 := hp2.bel hb3
 have hsl : (S ++ a.sets).length = S.length + a.n := by simp [SideP.n]
 have hcb := HQ.out w3 B T b N sv2 (S ++ a.sets) cv g0 o0 cc R dv rv (putM M S.length a.n a.arc) vb hat3.mkd (HDD.out _ hat3.belB) hvb (by rw [hsl]; have := HNN.out; omega) (by rw [hsl]; exact HFM.out.put) (putM_cost HCM.out HA.out.ca)
 clear hb3 hvb hp2
 refine hK _ _ hS3 ?_
 clear hK
 try simp only [Act.put, zq1, zq2, zq3, zq4, zq5, zq6]
 refine anyX_g (i := 7) (by kernel_rfl) (by decide) rfl (by rfl) ?_
 intro K hK
 try simp only [zq1, zq2, zq3]
 refine wp_enterE #[.pointer (some ⟨b, 0, none⟩), vb] Tryz.func41 (by kernel_rfl) (by kernel_rfl) ?_ (hcb) ?_
 ·go_simp
 rintro e w4 ⟨v4, sv4, rfl, hp4, hmk4, hfr4⟩
 refine ⟨_, rfl, ?_⟩
 have hat4 := hat3.link hmk4 hfr4
 have hS4 := HRF.out _ hat4.xb
 have hp2 := hp3.frC hfr4
 rw [hsl] at hat4 hp4
 have hl1 := doorsF HA.out (o := S.length) (N := N) (by have := HNN.out; omega)
 have hl2 := doorsF HD.out (o := S.length + a.n) (N := N) (by have := HNN.out; omega)
 have hl3 := HNN.out; have hl4 := HSM.out
 have hz2 := hat2.sz; have hz4 := hat4.sz; have hz3 := hat3.sz; have hz1 := hat1.sz
 clear hcb hfr4 hmk4 hp3
 refine hK _ _ hS4 ?_
 clear hK
 try simp only [Act.put, zq1, zq2, zq3, zq4, zq5, zq6]
 refine anyX_g (i := 8) (by kernel_rfl) (by decide) rfl (by rfl) ?_
 intro K hK
 try simp only [zq1, zq2, zq3]
 refine wp_enterE #[v2, v4] Tryz.func69 (by kernel_rfl) (by kernel_rfl) ?_ (either_any (S := Left_ T sv4) (hp2.sub (fun g hg => hg.2)) (hp4.sub (fun g hg => hg.2)) HA.out.cn (by omega) (by omega) hat4.left) ?_
 ·go_simp
 rintro e w5 ⟨v5, rfl, hp5, hb5⟩
 refine ⟨_, rfl, ?_⟩
 have hat5 := hat4.bel hb5
 have hS5 := HRF.out _ hat5.xb
 rw [put_alt HFM.out] at hat5
 rw [alt_first HA.out, alt_ends HA.out] at hp5
 have hz5 := hat5.sz
 clear hb5 hp2 hp4 hl1 hl2
 obtain ⟨FA, fc, EA, ec, rfl, hpf, hpe, -, -, -, -, -, -⟩ := hp5.parts
 clear hpf hpe
 obtain ⟨nf, hnf⟩ : ∃ n, (doorsOf S.length (sAlt a d).first).length = n := ⟨_, rfl⟩
 obtain ⟨ne, hne⟩ : ∃ n, (doorsOf S.length (sAlt a d).ends).length = n := ⟨_, rfl⟩
 obtain ⟨z, hz⟩ : ∃ z, mnC a.none_ d.none_ = z := ⟨_, rfl⟩
 rw [hnf, hne, hz] at hp5
 rw [hnf, hne, hz]
 clear hnf hne
 refine hK _ _ hS5 ?_
 clear hK
 try simp only [Act.put, zq1, zq2, zq3, zq4, zq5, zq6]
 have r0 := Blk.cell hat5.xr 0; have r1 := Blk.cell hat5.xr 1; have r2 := Blk.cell hat5.xr 2
 have fr0 := Blk.frozen hat5.xr 0; have fr1 := Blk.frozen hat5.xr 1; have fr2 := Blk.frozen hat5.xr 2
 simp only [List.getElem?_toArray, List.getElem?_cons_zero, List.getElem?_cons_succ] at r0 r1 r2
 have HAT := Lib.hid hat5; have HPV := Lib.hid hp5; have HZ := Lib.hid hz; have HC := Lib.hid hz4
 clear hS hS1 hS2 hS3 hS4 hS5 hat0 hat1 hat2 hat3 hat4 hat5 hp5 hz hz1 hz2 hz3 hz4 hz5 hl3 hl4 hsl
 refine anyX_last (by kernel_rfl) (by kernel_rfl) rfl rfl ?_
 try simp only [zq1, zq2, zq3]
 go_simp
 try apply_assumption
 go_wp2_with fail
 obtain ⟨q1, q2, q3⟩ := HAT.out.done HPV.out (HC.out)
 refine bodyPost_ret (v := .agg #[.slice FA nf fc, .slice EA ne ec, .int .i64 z]) (by simp [results, Tryz.results41, go_sem, r0, r1, r2]) rfl ?_
 unfold MadeP
 rw [sAlt_n]
 rw [List.append_assoc] at q2
 show ∃ v' sv', _ = _ /\ PieceV _ _ v' (doorsOf S.length (sAlt a d).first) (doorsOf S.length (sAlt a d).ends) (mnC a.none_ d.none_) /\ _
 rw [HZ.out]
 exact ⟨_, _, rfl, q1, q2, q3⟩
theorem piece_star {D : List Bs} {p : Pat} (hp : PieceSpec D p) (oa : (sideOf (ixN D) p).Ok) : PieceSpec D (.star p) := by
 intro w B T b N sv S cv g0 o0 cc R dv rv M v hm hD hT hn hf hM
 obtain ⟨nm, A, n, c, rfl, hnm, hk⟩ := TreeV.six_ (show TreeV true w (fun g => g < B) v (.mk 6 0 0 0 [] [p.tree]) from hT)
 have hn1 : n <= 1000 := by have := hk.1; simp at this; omega
 have hst := PieceAt.start hm #[.int .i64 6, .int .i64 0, .int .i64 0, .int .i64 0, .string nm, .slice A n c]
 obtain ⟨W0, hW0⟩ : ∃ W0, (w.alloc (.cells #[.int .i64 6, .int .i64 0, .int .i64 0, .int .i64 0, .string nm, .slice A n c] 33)).alloc (.cells #[.slice none 0 0, .slice none 0 0, .int .i64 0] 87) = W0 := ⟨_, rfl⟩
 rw [hW0] at hst
 have hkk : ∀ W, Below B w W -> KidsV true W (fun g => g < B) A n c [p.tree] := fun W hW => hk.fr hW
 have hdd : ∀ W, Below B w W -> Names W (fun g => g < B) dv D := fun W hW => hD.fr hW
 have hsm := hm.small
 have hrf : ∀ W, Blk W w.heap.size 33 #[.int .i64 6, .int .i64 0, .int .i64 0, .int .i64 0, .string nm, .slice A n c] -> (fun w' : World => w'.cell? ⟨w.heap.size, 0, none⟩ = some (.int .i64 6) /\ w'.cell? ⟨w.heap.size, 1, none⟩ = some (.int .i64 0) /\ w'.cell? ⟨w.heap.size, 2, none⟩ = some (.int .i64 0) /\ w'.cell? ⟨w.heap.size, 3, none⟩ = some (.int .i64 0) /\ w'.cell? ⟨w.heap.size, 4, none⟩ = some (.string nm) /\ w'.cell? ⟨w.heap.size, 5, none⟩ = some (.slice A n c)) W := fun W hW => ⟨Blk.cell hW 0, Blk.cell hW 1, Blk.cell hW 2, Blk.cell hW 3, Blk.cell hW 4, Blk.cell hW 5⟩
 obtain ⟨a, haE⟩ : ∃ a, sideOf (ixN D) p = a := ⟨_, rfl⟩
 have hp' := hp
 unfold PieceSpec at hp'
 rw [haE] at hp' oa
 have hn' : S.length + a.n <= N := by rw [<- haE]; exact hn
 have hgoal : sideOf (ixN D) (.star p) = sStar a := by rw [<- haE]; rfl
 rw [hgoal]
 have hch := schild_ok W0 (fun g => g < B) 6 0 0 0 nm A n c [p.tree] 0 (by simp) (hkk W0 hst.belB) 0 rfl hn1
 have HP := Lib.hid hp'; have HA := Lib.hid oa; have HNN := Lib.hid hn'; have HCH := Lib.hid hch
 clear hp' oa hn' hgoal haE hch
 have HST := Lib.hid hst; have HKK := Lib.hid hkk; have HDD := Lib.hid hdd; have HRF := Lib.hid hrf; have HW0 := Lib.hid hW0; have HN1 := Lib.hid hn1; have HN := Lib.hid hn; have HFM := Lib.hid hf; have HCM := Lib.hid hM; have HSM := Lib.hid hsm; have HNM := Lib.hid hnm
 clear hst hkk hdd hrf hW0 hn1 hn hf hM hm hD hT hk hsm hnm hp
 go_enter Tryz.func41, Tryz.ntmps41
 go_wp2_with fail
 rw [HW0.out]
 refine HCH.out.mono ?_
 rintro e w1 ⟨va, rfl, hva, hb1⟩
 have hat1 := HST.out.bel hb1
 have hca := HP.out w1 B T b N sv (S) cv g0 o0 cc R dv rv (M) va hat1.mkd (HDD.out _ hat1.belB) hva HNN.out HFM.out HCM.out
 have HCA := Lib.hid hca; have HAT1 := Lib.hid hat1
 clear hca hva hb1 hat1
 go_wp2_with fail
 refine HCA.out.mono ?_
 rintro e w2 ⟨v2, sv2, rfl, hp2, hmk2, hfr2⟩
 have hat2 := HAT1.out.link hmk2 hfr2
 have hl1 := doorsF HA.out (o := S.length) (N := N) HNN.out
 have hstar := star_any hat2.mkd (S0 := fun g => w1.heap.size <= g /\ Left_ T sv2 g) (fun g hg => hg.2) hp2 hl1.1 hl1.2.1 (putM_cost HCM.out HA.out.ca)
 rw [put_star HCM.out HA.out] at hstar
 have HSTAR := Lib.hid hstar; have HAT2 := Lib.hid hat2; have HSZ := Lib.hid HAT1.out.sz
 clear hstar hat2 hl1 hp2 hmk2 hfr2 HCA HAT1 HCH
 go_wp2_with fail
 refine HSTAR.out.mono ?_
 rintro e w3 ⟨v3, rfl, hp3, hmk3, hfr3⟩
 have hat3 := HAT2.out.link hmk3 hfr3
 obtain ⟨FA, fc, EA, ec, rfl, hpf, hpe, -, -, -, -, -, -⟩ := hp3.parts
 clear hpf hpe
 obtain ⟨nf, hnf⟩ : ∃ n, (doorsOf S.length a.first).length = n := ⟨_, rfl⟩
 obtain ⟨ne, hne⟩ : ∃ n, (doorsOf S.length a.ends).length = n := ⟨_, rfl⟩
 rw [hnf, hne] at hp3
 rw [hnf, hne]
 clear hnf hne
 have r0 := Blk.cell hat3.xr 0; have r1 := Blk.cell hat3.xr 1; have r2 := Blk.cell hat3.xr 2
 have fr0 := Blk.frozen hat3.xr 0; have fr1 := Blk.frozen hat3.xr 1; have fr2 := Blk.frozen hat3.xr 2
 simp only [List.getElem?_toArray, List.getElem?_cons_zero, List.getElem?_cons_succ] at r0 r1 r2
 have HAT := Lib.hid hat3; have HPV := Lib.hid hp3
 clear hat3 hp3 hmk3 hfr3 HSTAR HAT2
 go_wp2_with fail
 obtain ⟨q1, q2, q3⟩ := HAT.out.done HPV.out (HSZ.out)
 refine bodyPost_ret (v := .agg #[.slice FA nf fc, .slice EA ne ec, .int .i64 0]) (by simp [results, Tryz.results41, go_sem, r0, r1, r2]) rfl ?_
 unfold MadeP
 show ∃ v' sv', _ = _ /\ PieceV _ _ v' (doorsOf S.length a.first) (doorsOf S.length a.ends) 0 /\ MkAt _ B T b N sv' (S ++ a.sets) cv g0 o0 cc R dv rv (putM M S.length a.n (sStar a).arc) /\ _
 exact ⟨_, _, rfl, q1, q2, q3⟩
theorem piece_weight {D : List Bs} {p : Pat} (wt : Nat) (hw : wt <= 1000000) (hp : PieceSpec D p) (oa : (sideOf (ixN D) p).Ok) : PieceSpec D (.weight p wt) := by
 intro w B T b N sv S cv g0 o0 cc R dv rv M v hm hD hT hn hf hM
 obtain ⟨nm, A, n, c, rfl, hnm, hk⟩ := TreeV.six_ (show TreeV true w (fun g => g < B) v (.mk 8 0 0 (wt : Nat) [] [p.tree]) from hT)
 have hn1 : n <= 1000 := by have := hk.1; simp at this; omega
 have hst := PieceAt.start hm #[.int .i64 8, .int .i64 0, .int .i64 0, .int .i64 (wt : Nat), .string nm, .slice A n c]
 obtain ⟨W0, hW0⟩ : ∃ W0, (w.alloc (.cells #[.int .i64 8, .int .i64 0, .int .i64 0, .int .i64 (wt : Nat), .string nm, .slice A n c] 33)).alloc (.cells #[.slice none 0 0, .slice none 0 0, .int .i64 0] 87) = W0 := ⟨_, rfl⟩
 rw [hW0] at hst
 have hkk : ∀ W, Below B w W -> KidsV true W (fun g => g < B) A n c [p.tree] := fun W hW => hk.fr hW
 have hdd : ∀ W, Below B w W -> Names W (fun g => g < B) dv D := fun W hW => hD.fr hW
 have hsm := hm.small
 have hrf : ∀ W, Blk W w.heap.size 33 #[.int .i64 8, .int .i64 0, .int .i64 0, .int .i64 (wt : Nat), .string nm, .slice A n c] -> (fun w' : World => w'.cell? ⟨w.heap.size, 0, none⟩ = some (.int .i64 8) /\ w'.cell? ⟨w.heap.size, 1, none⟩ = some (.int .i64 0) /\ w'.cell? ⟨w.heap.size, 2, none⟩ = some (.int .i64 0) /\ w'.cell? ⟨w.heap.size, 3, none⟩ = some (.int .i64 (wt : Nat)) /\ w'.cell? ⟨w.heap.size, 4, none⟩ = some (.string nm) /\ w'.cell? ⟨w.heap.size, 5, none⟩ = some (.slice A n c)) W := fun W hW => ⟨Blk.cell hW 0, Blk.cell hW 1, Blk.cell hW 2, Blk.cell hW 3, Blk.cell hW 4, Blk.cell hW 5⟩
 obtain ⟨a, haE⟩ : ∃ a, sideOf (ixN D) p = a := ⟨_, rfl⟩
 have hp' := hp
 unfold PieceSpec at hp'
 rw [haE] at hp' oa
 have hn' : S.length + a.n <= N := by rw [<- haE]; exact hn
 have hgoal : sideOf (ixN D) (.weight p wt) = sWeight a wt := by rw [<- haE]; rfl
 rw [hgoal]
 have hwc : CostC (wt : Int) := ⟨by omega, by omega⟩
 have HP := Lib.hid hp'; have HA := Lib.hid oa; have HNN := Lib.hid hn'; have HWC := Lib.hid hwc
 clear hp' oa hn' hgoal haE hwc hw
 have HST := Lib.hid hst; have HKK := Lib.hid hkk; have HDD := Lib.hid hdd; have HRF := Lib.hid hrf; have HW0 := Lib.hid hW0; have HN1 := Lib.hid hn1; have HN := Lib.hid hn; have HFM := Lib.hid hf; have HCM := Lib.hid hM; have HSM := Lib.hid hsm; have HNM := Lib.hid hnm
 clear hst hkk hdd hrf hW0 hn1 hn hf hM hm hD hT hk hsm hnm hp
 go_enter Tryz.func41, Tryz.ntmps41
 go_wp2_with fail
 rw [HW0.out]
 refine region_x 7 (fun w' : World => w'.cell? ⟨w.heap.size, 0, none⟩ = some (.int .i64 8) /\ w'.cell? ⟨w.heap.size, 1, none⟩ = some (.int .i64 0) /\ w'.cell? ⟨w.heap.size, 2, none⟩ = some (.int .i64 0) /\ w'.cell? ⟨w.heap.size, 3, none⟩ = some (.int .i64 (wt : Nat)) /\ w'.cell? ⟨w.heap.size, 4, none⟩ = some (.string nm) /\ w'.cell? ⟨w.heap.size, 5, none⟩ = some (.slice A n c)) (by kernel_rfl) ?_
 have hat0 := HST.out.drew
 have hS := HRF.out _ hat0.xb
 obtain ⟨V0, eV⟩ : ∃ W', W0.drew = W' := ⟨_, rfl⟩
 rw [eV] at hat0 hS ⊢
 clear eV
 refine tkx (i := 0) (v := ?_) hS ?_ ?_
 rotate_left
 ·rintro w' ⟨b0, b1, b2, b3, b4, b5⟩
  go_simp
  try with_reducible rfl
 try simp only [Act.put, zq1, zq2, zq3, zq4, zq5, zq6]
 refine tkx (i := 1) (v := ?_) hS ?_ ?_
 rotate_left
 ·rintro w' ⟨b0, b1, b2, b3, b4, b5⟩
  go_simp
  try with_reducible rfl
 try simp only [Act.put, zq1, zq2, zq3, zq4, zq5, zq6]
 refine tkx (i := 4) (v := ?_) hS ?_ ?_
 rotate_left
 ·rintro w' ⟨b0, b1, b2, b3, b4, b5⟩
  go_simp
  try with_reducible rfl
 try simp only [Act.put, zq1, zq2, zq3, zq4, zq5, zq6]
 refine tkx (i := 5) (v := ?_) hS ?_ ?_
 rotate_left
 ·rintro w' ⟨b0, b1, b2, b3, b4, b5⟩
  go_simp
  try with_reducible rfl
 try simp only [Act.put, zq1, zq2, zq3, zq4, zq5, zq6]
 refine anyX_g (i := 2) (by kernel_rfl) (by decide) rfl (by rfl) ?_
 intro K hK
 try simp only [zq1, zq2, zq3]
 refine wp_enterE #[.agg #[.int .i64 8, .int .i64 0, .int .i64 0, .int .i64 (wt : Nat), .string nm, .slice A n c], .int .i64 0] Tryz.func45 (by kernel_rfl) (by kernel_rfl) ?_ (schild_ok V0 (fun g => g < B) 8 0 0 (wt : Nat) nm A n c [p.tree] 0 (by simp) (HKK.out _ hat0.belB) 0 rfl HN1.out) ?_
 ·go_simp
 rintro e w1 ⟨va, rfl, hva, hb1⟩
 refine ⟨_, rfl, ?_⟩
 have hat1 := hat0.bel hb1
 have hS1 := HRF.out _ hat1.xb
 have hca := HP.out w1 B T b N sv (S) cv g0 o0 cc R dv rv (M) va hat1.mkd (HDD.out _ hat1.belB) hva HNN.out HFM.out HCM.out
 clear hb1 hva
 refine hK _ _ hS1 ?_
 clear hK
 try simp only [Act.put, zq1, zq2, zq3, zq4, zq5, zq6]
 refine anyX_g (i := 3) (by kernel_rfl) (by decide) rfl (by rfl) ?_
 intro K hK
 try simp only [zq1, zq2, zq3]
 refine wp_enterE #[.pointer (some ⟨b, 0, none⟩), va] Tryz.func41 (by kernel_rfl) (by kernel_rfl) ?_ (hca) ?_
 ·go_simp
 rintro e w2 ⟨v2, sv2, rfl, hp2, hmk2, hfr2⟩
 refine ⟨_, rfl, ?_⟩
 have hat2 := hat1.link hmk2 hfr2
 have hS2 := HRF.out _ hat2.xb
 have hl1 := doorsF HA.out (o := S.length) (N := N) HNN.out
 have hz1 := hat1.sz
 have hz2 := hfr2.size
 clear hca hfr2 hmk2
 refine hK _ _ hS2 ?_
 clear hK
 try simp only [Act.put, zq1, zq2, zq3, zq4, zq5, zq6]
 refine anyX_g (i := 6) (by kernel_rfl) (by decide) rfl (by rfl) ?_
 intro K hK
 try simp only [zq1, zq2, zq3]
 refine wp_enterE #[v2, .int .i64 (wt : Nat)] Tryz.func72 (by kernel_rfl) (by kernel_rfl) ?_ (dearer_any hp2 (wt : Nat) HA.out.cn HWC.out (fun d hd => (hl1.1 d hd).2) (fun g hg => ⟨by omega, hat2.left g hg⟩)) ?_
 ·go_simp
 rintro e w3 ⟨v3, rfl, hp3, hb3⟩
 refine ⟨_, rfl, ?_⟩
 have hat3 := hat2.bel hb3
 have hS3 := HRF.out _ hat3.xb
 rw [plusD_doors _ HWC.out _ HA.out.cf] at hp3
 clear hb3 hp2 hl1
 change PieceV w3 (fun g => w1.heap.size <= g /\ Left_ T sv2 g) v3 (doorsOf S.length (sWeight a wt).first) (doorsOf S.length a.ends) (plC a.none_ wt) at hp3
 obtain ⟨FA, fc, EA, ec, rfl, hpf, hpe, -, -, -, -, -, -⟩ := hp3.parts
 clear hpf hpe
 obtain ⟨nf, hnf⟩ : ∃ n, (doorsOf S.length (sWeight a wt).first).length = n := ⟨_, rfl⟩
 obtain ⟨ne, hne⟩ : ∃ n, (doorsOf S.length a.ends).length = n := ⟨_, rfl⟩
 obtain ⟨z, hz⟩ : ∃ z, plC a.none_ wt = z := ⟨_, rfl⟩
 rw [hnf, hne, hz] at hp3
 rw [hnf, hne, hz]
 clear hnf hne
 refine hK _ _ hS3 ?_
 clear hK
 try simp only [Act.put, zq1, zq2, zq3, zq4, zq5, zq6]
 have r0 := Blk.cell hat3.xr 0; have r1 := Blk.cell hat3.xr 1; have r2 := Blk.cell hat3.xr 2
 have fr0 := Blk.frozen hat3.xr 0; have fr1 := Blk.frozen hat3.xr 1; have fr2 := Blk.frozen hat3.xr 2
 simp only [List.getElem?_toArray, List.getElem?_cons_zero, List.getElem?_cons_succ] at r0 r1 r2
 have HAT := Lib.hid hat3; have HPV := Lib.hid hp3; have HZ := Lib.hid hz; have HC := Lib.hid hz1
 clear hS hS1 hS2 hS3 hat0 hat1 hat2 hat3 hp3 hz hz1 hz2
 refine anyX_last (by kernel_rfl) (by kernel_rfl) rfl rfl ?_
 try simp only [zq1, zq2, zq3]
 go_simp
 try apply_assumption
 go_wp2_with fail
 obtain ⟨q1, q2, q3⟩ := HAT.out.done HPV.out (HC.out)
 refine bodyPost_ret (v := .agg #[.slice FA nf fc, .slice EA ne ec, .int .i64 z]) (by simp [results, Tryz.results41, go_sem, r0, r1, r2]) rfl ?_
 unfold MadeP
 show ∃ v' sv', _ = _ /\ PieceV _ _ v' (doorsOf S.length (sWeight a wt).first) (doorsOf S.length a.ends) (plC a.none_ wt) /\ MkAt _ B T b N sv' (S ++ a.sets) cv g0 o0 cc R dv rv (putM M S.length a.n a.arc) /\ _
 rw [HZ.out]
 exact ⟨_, _, rfl, q1, q2, q3⟩
theorem piece_times {D : List Bs} {p : Pat} (lo hi : Nat) (hlh : lo <= hi) (hhi : hi <= 12) (hp : PieceSpec D p) (oa : (sideOf (ixN D) p).Ok) : PieceSpec D (.times p lo hi) := by
 intro w B T b N sv S cv g0 o0 cc R dv rv M v hm hD hT hn hf hM
 obtain ⟨nm, A, n, c, rfl, hnm, hk⟩ := TreeV.six_ (show TreeV true w (fun g => g < B) v (.mk 7 (lo : Nat) (hi : Nat) 0 [] [p.tree]) from hT)
 have hn1 : n <= 1000 := by have := hk.1; simp at this; omega
 have hst := PieceAt.start hm #[.int .i64 7, .int .i64 (lo : Nat), .int .i64 (hi : Nat), .int .i64 0, .string nm, .slice A n c]
 obtain ⟨W0, hW0⟩ : ∃ W0, (w.alloc (.cells #[.int .i64 7, .int .i64 (lo : Nat), .int .i64 (hi : Nat), .int .i64 0, .string nm, .slice A n c] 33)).alloc (.cells #[.slice none 0 0, .slice none 0 0, .int .i64 0] 87) = W0 := ⟨_, rfl⟩
 rw [hW0] at hst
 have hkk : ∀ W, Below B w W -> KidsV true W (fun g => g < B) A n c [p.tree] := fun W hW => hk.fr hW
 have hdd : ∀ W, Below B w W -> Names W (fun g => g < B) dv D := fun W hW => hD.fr hW
 have hsm := hm.small
 have hrf : ∀ W, Blk W w.heap.size 33 #[.int .i64 7, .int .i64 (lo : Nat), .int .i64 (hi : Nat), .int .i64 0, .string nm, .slice A n c] -> (fun w' : World => w'.cell? ⟨w.heap.size, 0, none⟩ = some (.int .i64 7) /\ w'.cell? ⟨w.heap.size, 1, none⟩ = some (.int .i64 (lo : Nat)) /\ w'.cell? ⟨w.heap.size, 2, none⟩ = some (.int .i64 (hi : Nat)) /\ w'.cell? ⟨w.heap.size, 3, none⟩ = some (.int .i64 0) /\ w'.cell? ⟨w.heap.size, 4, none⟩ = some (.string nm) /\ w'.cell? ⟨w.heap.size, 5, none⟩ = some (.slice A n c)) W := fun W hW => ⟨Blk.cell hW 0, Blk.cell hW 1, Blk.cell hW 2, Blk.cell hW 3, Blk.cell hW 4, Blk.cell hW 5⟩
 obtain ⟨a, haE⟩ : ∃ a, sideOf (ixN D) p = a := ⟨_, rfl⟩
 have hp' := hp
 unfold PieceSpec at hp'
 rw [haE] at hp' oa
 have hn' : S.length + hi * a.n <= N := by rw [<- haE]; have e : (sideOf (ixN D) (.times p lo hi)).n = hi * (sideOf (ixN D) p).n := sUp_n _ _ _ _; rw [<- e]; exact hn
 have hgoal : sideOf (ixN D) (.times p lo hi) = sTimes (sideOf (ixN D) p) lo hi := rfl
 rw [hgoal]
 obtain ⟨t, ht⟩ : ∃ t, sTimes (sideOf (ixN D) p) lo hi = t := ⟨_, rfl⟩
 rw [<- haE] at oa hn'
 have htm := fun W sv' (hat : PieceAt w B T b N sv cv g0 o0 cc R dv rv #[.int .i64 7, .int .i64 (lo : Nat), .int .i64 (hi : Nat), .int .i64 0, .string nm, .slice A n c] W sv' S M) va (hva : TreeV true W (fun g => g < B) va p.tree) => times_any hp va hat.mkd (hdd W hat.belB) hva lo hi hlh hhi oa hn' hf hM
 rw [ht] at htm ⊢
 have HTM := Lib.hid htm
 clear hp' oa hn' hgoal haE ht htm hlh hhi
 have HST := Lib.hid hst; have HKK := Lib.hid hkk; have HDD := Lib.hid hdd; have HRF := Lib.hid hrf; have HW0 := Lib.hid hW0; have HN1 := Lib.hid hn1; have HN := Lib.hid hn; have HFM := Lib.hid hf; have HCM := Lib.hid hM; have HSM := Lib.hid hsm; have HNM := Lib.hid hnm
 clear hst hkk hdd hrf hW0 hn1 hn hf hM hm hD hT hk hsm hnm hp
 go_enter Tryz.func41, Tryz.ntmps41
 go_wp2_with fail
 rw [HW0.out]
 refine region_x 8 (fun w' : World => w'.cell? ⟨w.heap.size, 0, none⟩ = some (.int .i64 7) /\ w'.cell? ⟨w.heap.size, 1, none⟩ = some (.int .i64 (lo : Nat)) /\ w'.cell? ⟨w.heap.size, 2, none⟩ = some (.int .i64 (hi : Nat)) /\ w'.cell? ⟨w.heap.size, 3, none⟩ = some (.int .i64 0) /\ w'.cell? ⟨w.heap.size, 4, none⟩ = some (.string nm) /\ w'.cell? ⟨w.heap.size, 5, none⟩ = some (.slice A n c)) (by kernel_rfl) ?_
 have hat0 := HST.out.drew
 have hS := HRF.out _ hat0.xb
 obtain ⟨V0, eV⟩ : ∃ W', W0.drew = W' := ⟨_, rfl⟩
 rw [eV] at hat0 hS ⊢
 clear eV
 refine tkx (i := 0) (v := ?_) hS ?_ ?_
 rotate_left
 ·rintro w' ⟨b0, b1, b2, b3, b4, b5⟩
  go_simp
  try with_reducible rfl
 try simp only [Act.put, zq1, zq2, zq3, zq4, zq5, zq6]
 refine tkx (i := 1) (v := ?_) hS ?_ ?_
 rotate_left
 ·rintro w' ⟨b0, b1, b2, b3, b4, b5⟩
  go_simp
  try with_reducible rfl
 try simp only [Act.put, zq1, zq2, zq3, zq4, zq5, zq6]
 refine tkx (i := 3) (v := ?_) hS ?_ ?_
 rotate_left
 ·rintro w' ⟨b0, b1, b2, b3, b4, b5⟩
  go_simp
  try with_reducible rfl
 try simp only [Act.put, zq1, zq2, zq3, zq4, zq5, zq6]
 refine tkx (i := 4) (v := ?_) hS ?_ ?_
 rotate_left
 ·rintro w' ⟨b0, b1, b2, b3, b4, b5⟩
  go_simp
  try with_reducible rfl
 try simp only [Act.put, zq1, zq2, zq3, zq4, zq5, zq6]
 refine tkx (i := 5) (v := ?_) hS ?_ ?_
 rotate_left
 ·rintro w' ⟨b0, b1, b2, b3, b4, b5⟩
  go_simp
  try with_reducible rfl
 try simp only [Act.put, zq1, zq2, zq3, zq4, zq5, zq6]
 refine tkx (i := 6) (v := ?_) hS ?_ ?_
 rotate_left
 ·rintro w' ⟨b0, b1, b2, b3, b4, b5⟩
  go_simp
  try with_reducible rfl
 try simp only [Act.put, zq1, zq2, zq3, zq4, zq5, zq6]
 refine anyX_g (i := 2) (by kernel_rfl) (by decide) rfl (by rfl) ?_
 intro K hK
 try simp only [zq1, zq2, zq3]
 refine wp_enterE #[.agg #[.int .i64 7, .int .i64 (lo : Nat), .int .i64 (hi : Nat), .int .i64 0, .string nm, .slice A n c], .int .i64 0] Tryz.func45 (by kernel_rfl) (by kernel_rfl) ?_ (schild_ok V0 (fun g => g < B) 7 (lo : Nat) (hi : Nat) 0 nm A n c [p.tree] 0 (by simp) (HKK.out _ hat0.belB) 0 rfl HN1.out) ?_
 ·go_simp
 rintro e w1 ⟨va, rfl, hva, hb1⟩
 refine ⟨_, rfl, ?_⟩
 have hat1 := hat0.bel hb1
 have hS1 := HRF.out _ hat1.xb
 have hca := HTM.out w1 sv hat1 va hva
 clear hb1 hva
 refine hK _ _ hS1 ?_
 clear hK
 try simp only [Act.put, zq1, zq2, zq3, zq4, zq5, zq6]
 refine anyX_g (i := 7) (by kernel_rfl) (by decide) rfl (by rfl) ?_
 intro K hK
 try simp only [zq1, zq2, zq3]
 refine wp_enterE #[.pointer (some ⟨b, 0, none⟩), va, .int .i64 (lo : Nat), .int .i64 (hi : Nat)] Tryz.func71 (by kernel_rfl) (by kernel_rfl) ?_ (hca) ?_
 ·go_simp
 rintro e w2 ⟨v2, sv2, rfl, hp2, hmk2, hfr2⟩
 refine ⟨_, rfl, ?_⟩
 have hat2 := hat1.link hmk2 hfr2
 have hS2 := HRF.out _ hat2.xb
 have hz1 := hat1.sz
 clear hca hfr2 hmk2
 obtain ⟨FA, fc, EA, ec, rfl, hpf, hpe, -, -, -, -, -, -⟩ := hp2.parts
 clear hpf hpe
 obtain ⟨nf, hnf⟩ : ∃ n, (doorsOf S.length t.first).length = n := ⟨_, rfl⟩
 obtain ⟨ne, hne⟩ : ∃ n, (doorsOf S.length t.ends).length = n := ⟨_, rfl⟩
 obtain ⟨z, hz⟩ : ∃ z, t.none_ = z := ⟨_, rfl⟩
 rw [hnf, hne, hz] at hp2
 rw [hnf, hne, hz]
 clear hnf hne
 refine hK _ _ hS2 ?_
 clear hK
 try simp only [Act.put, zq1, zq2, zq3, zq4, zq5, zq6]
 have r0 := Blk.cell hat2.xr 0; have r1 := Blk.cell hat2.xr 1; have r2 := Blk.cell hat2.xr 2
 have fr0 := Blk.frozen hat2.xr 0; have fr1 := Blk.frozen hat2.xr 1; have fr2 := Blk.frozen hat2.xr 2
 simp only [List.getElem?_toArray, List.getElem?_cons_zero, List.getElem?_cons_succ] at r0 r1 r2
 have HAT := Lib.hid hat2; have HPV := Lib.hid hp2; have HZ := Lib.hid hz; have HC := Lib.hid hz1
 clear hS hS1 hS2 hat0 hat1 hat2 hp2 hz hz1
 refine anyX_last (by kernel_rfl) (by kernel_rfl) rfl rfl ?_
 try simp only [zq1, zq2, zq3]
 go_simp
 try apply_assumption
 go_wp2_with fail
 obtain ⟨q1, q2, q3⟩ := HAT.out.done HPV.out (HC.out)
 refine bodyPost_ret (v := .agg #[.slice FA nf fc, .slice EA ne ec, .int .i64 z]) (by simp [results, Tryz.results41, go_sem, r0, r1, r2]) rfl ?_
 unfold MadeP
 rw [HZ.out]
 exact ⟨_, _, rfl, q1, q2, q3⟩
theorem piece_any {D : List Bs} (hDl : D.length <= 1000) : ∀ (p : Pat) (wg : Bool), p.Ok D wg -> PieceSpec D p := by
 intro p
 induction p with
 | none_ => exact fun _ _ => piece_none D
 | set s => exact fun _ h => piece_set D s h hDl
 | any_ => exact fun _ _ => piece_any_ D
 | cat p q ihp ihq => exact fun wg h => piece_cat (ihp wg h.1) (ihq wg h.2) (sideOf_ok _ p h.1.wb) (sideOf_ok _ q h.2.wb)
 | alt p q ihp ihq => exact fun wg h => piece_alt (ihp wg h.1) (ihq wg h.2) (sideOf_ok _ p h.1.wb) (sideOf_ok _ q h.2.wb)
 | star p ihp => exact fun wg h => piece_star (ihp wg h) (sideOf_ok _ p (Pat.Ok.wb (p := p) h))
 | times p lo hi ihp => exact fun wg h => piece_times lo hi h.2.1 h.2.2 (ihp wg h.1) (sideOf_ok _ p h.1.wb)
 | weight p wt ihp => exact fun wg h => piece_weight wt h.2.2 (ihp wg h.1) (sideOf_ok _ p h.1.wb)
end Go.Proofs.YtfccnadbiglagaaGreat
namespace Go.Proofs.YtfccnadbiglagaaGreat
open Go Go.RowKit Go.Proofs
def SideV (w : World) (B : Nat) (v : Value) (s : SideP) : Prop :=
 ∃ vs vf ve va, v = .agg #[vs, vf, ve, va, .int .i64 s.none_] /\ Own w B vs s.n s.sets /\ Own w B vf s.n s.first /\ Own w B ve s.n s.ends /\ OwnE encA 58 3 w B va (arcsOf s.n s.arc).length (arcsOf s.n s.arc)
def MadeSide (w : World) (s : SideP) (z : Nat) (e : Ending) (w' : World) : Prop :=
 Below w.heap.size w w' /\ ((z <= 120 /\ ∃ v, e = .returned (.tuple #[v, .bool true]) /\ SideV w' w.heap.size v s) \/ (120 < z /\ e = .returned (.tuple #[.agg #[.slice none 0 0, .slice none 0 0, .slice none 0 0, .slice none 0 0, .int .i64 0], .bool false])))
theorem arcsOf_congr {N : Nat} {f g : Mat} (h : ∀ i j, i < N -> j < N -> f i j = g i j) : arcsOf N f = arcsOf N g := by
 unfold arcsOf
 have e : ∀ l : List Nat, (∀ i ∈ l, i < N) -> l.flatMap (arcsRow N f) = l.flatMap (arcsRow N g) := by
  intro l
  induction l with
  | nil => intro _; rfl
  | cons i l ih =>
    intro hl
    rw [List.flatMap_cons, List.flatMap_cons, ih (fun j hj => hl j (by simp [hj]))]
    congr 1
    unfold arcsRow
    refine filterMap_congr' fun j hj => ?_
    unfold arcAt
    rw [h i j (hl i (by simp)) (List.mem_range.1 hj)]
 exact e _ fun i hi => List.mem_range.1 hi
theorem mk_new {w W W' : World} {N b T B : Nat} {A : Option Addr} {c : Nat} {R : Nat -> Nat} {dv rv : Value} (h : Rows0 w N W N A c R) (hN : N <= 120) (hB : B <= w.heap.size) (hk : ∀ g, w.heap.size <= g -> g < W.heap.size -> W'.heap[g]? = W.heap[g]?) (hT : W.heap.size <= T) (hT2 : T <= W'.heap.size)
  (hb : Blk W' b 83 #[.slice none 0 0, .slice A N c, dv, rv]) (hbB : B <= b /\ b < T) (hbo : b < w.heap.size \/ W.heap.size <= b) : ∃ g0, MkAt W' B T b N (.slice none 0 0) [] (.slice A N c) g0 0 c R dv rv (fun _ _ => infC) := by
  have hcap : N <= c /\ c <= maxLen := by
   rcases h.own.2 with ⟨e, e2⟩ | ⟨g, cap, cur, e, _, _, h1, h2, _⟩
   ·simp only [Value.slice.injEq] at e
    obtain ⟨_, _, rfl⟩ := e
    exact ⟨by omega, Nat.zero_le _⟩
   ·simp only [Value.slice.injEq, true_and] at e
    rw [e.2]; exact ⟨h1, h2⟩
  have hrows : ∀ i, i < N -> B <= R i /\ R i < T /\ b ≠ R i /\ Blk W' (R i) 3 (rowM N (fun _ _ => infC) i).toArray := fun i hi => by
   obtain ⟨h1, h2, h3, _⟩ := h.rows i hi
   refine ⟨by omega, by omega, by omega, ?_⟩
   have e : rowM N (fun _ _ => infC) i = List.replicate N (Value.int .i64 1152921504606846976) := by
    unfold rowM
    rw [List.map_const', List.length_range]; rfl
   rw [e]
   exact (hk _ (by omega) h2).trans h3
  by_cases h0 : N = 0
  ·subst h0
   refine ⟨0, hb, hbB, fun q => by omega, fun i hi => by omega, hT2, Own.nil _ _, by omega, by simp, .inl ⟨rfl, A, c, rfl, hcap.2⟩, fun q => by omega, fun i hi => by omega, fun i hi => by omega, fun i j hi => by omega, fun i hi => by omega⟩
  ·rcases h.own.2 with ⟨_, e2⟩ | ⟨g, cap, cur, e, hg, hh, h1, h2, _⟩
   ·exact absurd e2 h0
   ·simp only [Value.slice.injEq, true_and] at e
    obtain ⟨rfl, rfl⟩ := e
    have hgl := (Array.getElem?_eq_some_iff.1 hh).1
    refine ⟨g, hb, hbB, fun _ => by omega, fun i hi => (hrows i hi).2.2.1, hT2, Own.nil _ _, hN, by simp, .inr ⟨by omega, rfl, h1, h2⟩, fun _ => ⟨by omega, by omega⟩, fun i hi => ?_, fun i hi => ⟨(hrows i hi).1, (hrows i hi).2.1, ?_⟩, fun i j hi hj => h.apart i j hi hj, fun i hi => (hrows i hi).2.2.2⟩
    ·rw [cell_of_heap (hk g (by omega) hgl), Nat.zero_add, World.ownsRow.cellAt h.own i (by omega), List.getElem?_map, List.getElem?_range hi]; rfl
    ·intro e
     obtain ⟨_, _, _, h4⟩ := h.rows i hi
     exact h4 (by rw [e]; rfl)
theorem own_eq {gf n c g : Nat} (h : (Value.slice (some ⟨gf, 0, none⟩) n c).ownBlock = some g) : gf = g := by simpa [Value.ownBlock] using h
theorem own_far {w w' : World} {B n : Nat} {v : Value} {l : List Int} (h : Own w B v n l) (hk : ∀ g, v.ownBlock = some g -> w'.heap[g]? = w.heap[g]?) : Own w' B v n l := by
 obtain ⟨h1, h2⟩ := h
 refine ⟨h1, ?_⟩
 rcases h2 with h2 | ⟨g, cap, cur, rfl, hg, hh, r⟩
 ·exact .inl h2
 ·exact .inr ⟨g, cap, cur, rfl, hg, by rw [hk g rfl]; exact hh, r⟩
theorem smake_any {D : List Bs} (p : Pat) (wg : Bool) (hp : p.Ok D wg) (hDl : D.length <= 1000) (w : World) (v : Value) (DA RA : Option Addr) (Dn Dc Rn Rc : Nat) (hT : TreeV true w (fun g => g < w.heap.size) v p.tree) (hD : Names w (fun g => g < w.heap.size) (.slice DA Dn Dc) D) :
  Calls Tryz.prog 17 #[v, .agg #[.slice DA Dn Dc, .slice RA Rn Rc]] w (MadeSide w (sideOf (ixN D) p) (sizeC p)) := by
  have hTb := hT.bound
  obtain ⟨k1, lo1, hi1, wt1, nm, A1, n1, c1, rfl, -⟩ := hT.kinded
  obtain ⟨W0, hW0⟩ : ∃ W0, ((w.alloc (.cells #[.int .i64 k1, .int .i64 lo1, .int .i64 hi1, .int .i64 wt1, .string nm, .slice A1 n1 c1] 33)).alloc (.cells #[.slice DA Dn Dc, .slice RA Rn Rc] 30)).alloc (.cells #[.slice none 0 0, .slice none 0 0, .slice none 0 0, .slice none 0 0, .int .i64 0] 39) = W0 := ⟨_, rfl⟩
  have hb0 : Below w.heap.size w W0 := by rw [<- hW0]; exact (((Below.refl _ _).alloc (Nat.le_refl _) _).alloc (by simp) _).alloc (by simp; omega) _
  have hz0 : W0.heap.size = w.heap.size + 3 := by rw [<- hW0]; simp
  have hx0 : Blk W0 w.heap.size 33 #[.int .i64 k1, .int .i64 lo1, .int .i64 hi1, .int .i64 wt1, .string nm, .slice A1 n1 c1] := by rw [<- hW0]; exact Blk.alloc (Blk.alloc (Blk.new _ _ _) _) _
  have hx1 : Blk W0 (w.heap.size + 1) 30 #[.slice DA Dn Dc, .slice RA Rn Rc] := by
   rw [<- hW0]
   have := Blk.new (w.alloc (.cells #[.int .i64 k1, .int .i64 lo1, .int .i64 hi1, .int .i64 wt1, .string nm, .slice A1 n1 c1] 33)) 30 #[.slice DA Dn Dc, .slice RA Rn Rc]
   rw [World.size_alloc] at this
   exact Blk.alloc this _
  have hx2 : Blk W0 (w.heap.size + 1 + 1) 39 #[.slice none 0 0, .slice none 0 0, .slice none 0 0, .slice none 0 0, .int .i64 0] := by
   rw [<- hW0]
   have := Blk.new ((w.alloc (.cells #[.int .i64 k1, .int .i64 lo1, .int .i64 hi1, .int .i64 wt1, .string nm, .slice A1 n1 c1] 33)).alloc (.cells #[.slice DA Dn Dc, .slice RA Rn Rc] 30)) 39 #[.slice none 0 0, .slice none 0 0, .slice none 0 0, .slice none 0 0, .int .i64 0]
   rwa [World.size_alloc, World.size_alloc] at this
  have hT0 : TreeV true W0 (fun g => g < W0.heap.size) (.agg #[.int .i64 k1, .int .i64 lo1, .int .i64 hi1, .int .i64 wt1, .string nm, .slice A1 n1 c1]) p.tree := (hT.fr hb0).keep (fun g hg => by omega) (fun _ _ _ _ h => h)
  have hD0 : Names W0 (fun g => g < W0.heap.size) (.slice DA Dn Dc) D := (hD.fr hb0).keep (fun g hg => by omega) (fun _ _ _ _ h => h)
  have hsz := ssize_ok p hp.hb W0 (fun g => g < W0.heap.size) _ hT0
  obtain ⟨N, hN⟩ : ∃ N, sizeC p = N := ⟨_, rfl⟩
  rw [hN] at hsz ⊢
  have y0 := Blk.cell hx0 0; have y1 := Blk.cell hx0 1; have y2 := Blk.cell hx0 2; have y3 := Blk.cell hx0 3; have y4 := Blk.cell hx0 4; have y5 := Blk.cell hx0 5
  simp only [List.getElem?_toArray, List.getElem?_cons_zero, List.getElem?_cons_succ] at y0 y1 y2 y3 y4 y5
  rw [<- hW0] at y0 y1 y2 y3 y4 y5
  have HSZ := Lib.hid hsz; have HX0 := Lib.hid hx0; have HX1 := Lib.hid hx1; have HX2 := Lib.hid hx2; have HB0 := Lib.hid hb0; have HZ0 := Lib.hid hz0; have HT0 := Lib.hid hT0; have HD0 := Lib.hid hD0; have HN := Lib.hid hN; have HW0 := Lib.hid hW0; have HP := Lib.hid hp; have HDL := Lib.hid hDl
  clear hsz hx0 hx1 hx2 hb0 hz0 hT0 hD0 hN hW0 hT hD hTb hp hDl
  have N0 : (0 : Int) <= (N : Int) := Int.natCast_nonneg _
  go_enter Tryz.func17, Tryz.ntmps17
  go_wp2_with fail
  rw [HW0.out]
  refine HSZ.out.mono ?_
  rintro e w1 ⟨rfl, hb1⟩
  clear y0 y1 y2 y3 y4 y5
  have hx0 := Blk.below HX0.out hb1 HX0.out.lt; have hx1 := Blk.below HX1.out hb1 HX1.out.lt; have hx2 := Blk.below HX2.out hb1 HX2.out.lt
  have HX0 := Lib.hid hx0; have HX1 := Lib.hid hx1; have HX2 := Lib.hid hx2; have HB1 := Lib.hid hb1
  clear hx0 hx1 hx2 hb1
  by_cases hbig : 120 < N
  ·have hbI : (120 : Int) < (N : Int) := by omega
   have xr := HX2.out
   have r0 := Blk.cell xr 0; have r1 := Blk.cell xr 1; have r2 := Blk.cell xr 2; have r3 := Blk.cell xr 3; have r4 := Blk.cell xr 4
   have fr0 := Blk.frozen xr 0; have fr1 := Blk.frozen xr 1; have fr2 := Blk.frozen xr 2; have fr3 := Blk.frozen xr 3; have fr4 := Blk.frozen xr 4
   simp only [List.getElem?_toArray, List.getElem?_cons_zero, List.getElem?_cons_succ] at r0 r1 r2 r3 r4
   clear xr
   go_wp2_with fail
   have hbw : Below w.heap.size w w1 := HB0.out.trans (HB1.out.mono HB0.out.size)
   refine bodyPost_ret (v := .tuple #[.agg #[.slice none 0 0, .slice none 0 0, .slice none 0 0, .slice none 0 0, .int .i64 0], .bool false]) (by simp [results, Tryz.results17, go_sem, r0, r1, r2, r3, r4]) rfl ⟨?_, .inr ⟨hbig, rfl⟩⟩
   exact (((((hbw.setCell (p := ⟨w.heap.size + 1 + 1, 0, none⟩) (by show w.heap.size <= w.heap.size + 1 + 1; omega) _).setCell (p := ⟨w.heap.size + 1 + 1, 1, none⟩) (by show w.heap.size <= w.heap.size + 1 + 1; omega) _).setCell (p := ⟨w.heap.size + 1 + 1, 2, none⟩) (by show w.heap.size <= w.heap.size + 1 + 1; omega) _).setCell (p := ⟨w.heap.size + 1 + 1, 3, none⟩) (by show w.heap.size <= w.heap.size + 1 + 1; omega) _).setCell (p := ⟨w.heap.size + 1 + 1, 4, none⟩) (by show w.heap.size <= w.heap.size + 1 + 1; omega) _)
  ·have hbI : ¬ (120 : Int) < (N : Int) := by omega
   go_wp2_with fail
   have hx1 := HX1.out
   have hrf : ∀ W, Blk W (w.heap.size + 1) 30 #[.slice DA Dn Dc, .slice RA Rn Rc] -> (fun w' : World => w'.cell? ⟨w.heap.size + 1, 0, none⟩ = some (.slice DA Dn Dc) /\ w'.cell? ⟨w.heap.size + 1, 1, none⟩ = some (.slice RA Rn Rc)) W := fun W hW => ⟨Blk.cell hW 0, Blk.cell hW 1⟩
   have HRF := Lib.hid hrf
   clear hrf hx1
   refine region_x 5 (fun w' : World => w'.cell? ⟨w.heap.size + 1, 0, none⟩ = some (.slice DA Dn Dc) /\ w'.cell? ⟨w.heap.size + 1, 1, none⟩ = some (.slice RA Rn Rc)) (by kernel_rfl) ?_
   have hS := HRF.out _ HX1.out.drew
   obtain ⟨V0, eV⟩ : ∃ W', w1.drew = W' := ⟨_, rfl⟩
   have hbv : Below w1.heap.size w1 V0 := by rw [<- eV]; exact (Below.refl _ _).drew
   rw [eV] at hS ⊢
   clear eV
   refine tkx (i := 0) (v := ?_) hS ?_ ?_
   rotate_left
   ·rintro w' ⟨b0, b1⟩
    go_simp
    try with_reducible rfl
   try simp only [Act.put, zq1, zq2, zq3, zq4, zq5, zq6]
   refine tkx (i := 2) (v := ?_) hS ?_ ?_
   rotate_left
   ·rintro w' ⟨b0, b1⟩
    go_simp
    try with_reducible rfl
   try simp only [Act.put, zq1, zq2, zq3, zq4, zq5, zq6]
   have hnw := fun W : World => newWeb_any N (by omega) W
   have HNW := Lib.hid hnw
   clear hnw
   have hxv : Blk V0 (w.heap.size + 1) 30 #[.slice DA Dn Dc, .slice RA Rn Rc] /\ Blk V0 w.heap.size 33 #[.int .i64 k1, .int .i64 lo1, .int .i64 hi1, .int .i64 wt1, .string nm, .slice A1 n1 c1] /\ Blk V0 (w.heap.size + 1 + 1) 39 #[.slice none 0 0, .slice none 0 0, .slice none 0 0, .slice none 0 0, .int .i64 0] := ⟨Blk.below HX1.out hbv HX1.out.lt, Blk.below HX0.out hbv HX0.out.lt, Blk.below HX2.out hbv HX2.out.lt⟩
   have HXV := Lib.hid hxv
   have HBV := Lib.hid (HB1.out.trans (hbv.mono HB1.out.size))
   clear hxv hbv
   refine anyX_2 (i := 1) (j := 4) (by kernel_rfl) (by decide) (by decide) rfl rfl rfl rfl ?_ ?_
   ·intro K hK
    try simp only [zq1, zq2, zq3]
    refine wp_enterE #[.int .i64 (N : Nat)] Tryz.func40 (by kernel_rfl) (by kernel_rfl) ?_ (HNW.out V0) ?_
    ·go_simp
    rintro e w2 ⟨A, c, R, rfl, hb2, hro⟩
    refine ⟨_, rfl, ?_⟩
    have hxv2 : Blk w2 (w.heap.size + 1) 30 #[.slice DA Dn Dc, .slice RA Rn Rc] /\ Blk w2 w.heap.size 33 #[.int .i64 k1, .int .i64 lo1, .int .i64 hi1, .int .i64 wt1, .string nm, .slice A1 n1 c1] /\ Blk w2 (w.heap.size + 1 + 1) 39 #[.slice none 0 0, .slice none 0 0, .slice none 0 0, .slice none 0 0, .int .i64 0] := ⟨Blk.below HXV.out.1 hb2 HXV.out.1.lt, Blk.below HXV.out.2.1 hb2 HXV.out.2.1.lt, Blk.below HXV.out.2.2 hb2 HXV.out.2.2.lt⟩
    have hbV2 := HBV.out.trans (hb2.mono HBV.out.size)
    have hS2 := HRF.out _ hxv2.1
    refine hK _ _ hS2 ?_
    clear hK
    try simp only [Act.put, zq1, zq2, zq3, zq4, zq5, zq6]
    refine tkx (i := 3) (v := ?_) hS2 ?_ ?_
    rotate_left
    ·rintro w' ⟨b0, b1⟩
     go_simp
     try with_reducible rfl
    try simp only [Act.put, zq1, zq2, zq3, zq4, zq5, zq6]
    refine anyX_g (i := 4) (by kernel_rfl) (by decide) rfl (by rfl) ?_
    intro K hK
    try simp only [zq1, zq2, zq3]
    go_simp
    obtain ⟨V1, eV⟩ : ∃ W', w2.alloc (.cells #[.slice none 0 0, .slice none 0 0, .slice none 0 0, .slice none 0 0] 83) = W' := ⟨_, rfl⟩
    have hb3 : Below w2.heap.size w2 V1 := by rw [<- eV]; exact (Below.refl _ _).alloc (Nat.le_refl _) _
    have hxm : Blk V1 w2.heap.size 83 #[.slice none 0 0, .slice none 0 0, .slice none 0 0, .slice none 0 0] := by rw [<- eV]; exact Blk.new _ _ _
    have hz1 : V1.heap.size = w2.heap.size + 1 := by rw [<- eV]; simp
    rw [eV]
    clear eV
    have hS3 := HRF.out _ (Blk.below hxv2.1 hb3 hxv2.1.lt)
    have hxbV := Blk.below hxv2.2.1 hb3 hxv2.2.1.lt; have hxsV := Blk.below hxv2.2.2 hb3 hxv2.2.2.lt
    have hbV := hbV2.trans (hb3.mono hbV2.size)
    have hbz := HBV.out.size; have hbz2 := hb2.size
    obtain ⟨b, hbE⟩ : ∃ b, w2.heap.size = b := ⟨_, rfl⟩
    rw [hbE] at hxm ⊢
    have hbb : W0.heap.size <= b := by omega
    refine hK _ _ hS3 ?_
    clear hK
    try simp only [Act.put, zq1, zq2, zq3, zq4, zq5, zq6]
    have r0 := Blk.cell hxm 0; have r1 := Blk.cell hxm 1; have r2 := Blk.cell hxm 2; have r3 := Blk.cell hxm 3
    have fr0 := Blk.frozen hxm 0; have fr1 := Blk.frozen hxm 1; have fr2 := Blk.frozen hxm 2; have fr3 := Blk.frozen hxm 3
    simp only [List.getElem?_toArray, List.getElem?_cons_zero, List.getElem?_cons_succ] at r0 r1 r2 r3
    have HRO := Lib.hid hro; have HB3 := Lib.hid hb3; have HBE := Lib.hid hbE; have HZZ := Lib.hid hz1
    clear hS hS2 hS3 hro hb3 hbE hz1 hxv2 hbV2 hb2
    obtain ⟨W5, hW5⟩ : ∃ W5, (((V1.setCell ⟨b, 0, none⟩ (.slice none 0 0)).setCell ⟨b, 1, none⟩ (.slice A N c)).setCell ⟨b, 2, none⟩ (.slice DA Dn Dc)).setCell ⟨b, 3, none⟩ (.slice RA Rn Rc) = W5 := ⟨_, rfl⟩
    refine anyX_last (by kernel_rfl) (by kernel_rfl) rfl rfl ?_
    try simp only [zq1, zq2, zq3]
    go_simp
    try apply_assumption
    try rw [hW5]
    have hxm5 : Blk W5 b 83 #[.slice none 0 0, .slice A N c, .slice DA Dn Dc, .slice RA Rn Rc] := by
     rw [<- hW5]
     have := (((hxm.set_ 0 (.slice none 0 0)).set_ 1 (.slice A N c)).set_ 2 (.slice DA Dn Dc)).set_ 3 (.slice RA Rn Rc)
     simpa using this
    have hfar : ∀ g, g ≠ b -> W5.heap[g]? = V1.heap[g]? := fun g hg => by rw [<- hW5]; exact (Below.heap_setCell _ ⟨b, 3, none⟩ _ g hg).trans ((Below.heap_setCell _ ⟨b, 2, none⟩ _ g hg).trans ((Below.heap_setCell _ ⟨b, 1, none⟩ _ g hg).trans (Below.heap_setCell _ ⟨b, 0, none⟩ _ g hg)))
    have hsz5 : W5.heap.size = V1.heap.size := by rw [<- hW5]; simp
    have hz0 := HZ0.out
    have hb5 : Below W0.heap.size W0 W5 := by rw [<- hW5]; exact (((hbV.setCell (p := ⟨b, 0, none⟩) hbb _).setCell (p := ⟨b, 1, none⟩) hbb _).setCell (p := ⟨b, 2, none⟩) hbb _).setCell (p := ⟨b, 3, none⟩) hbb _
    have hxb5 : Blk W5 w.heap.size 33 #[.int .i64 k1, .int .i64 lo1, .int .i64 hi1, .int .i64 wt1, .string nm, .slice A1 n1 c1] := (hfar _ (by omega)).trans hxbV
    have hxs5 : Blk W5 (w.heap.size + 1 + 1) 39 #[.slice none 0 0, .slice none 0 0, .slice none 0 0, .slice none 0 0, .int .i64 0] := (hfar _ (by omega)).trans hxsV
    clear r0 r1 r2 r3 fr0 fr1 fr2 fr3
    have hbE := HBE.out; have hz1 := HZZ.out; have hro := HRO.out
    have hmk5 : ∃ g0, MkAt W5 W0.heap.size W5.heap.size b N (.slice none 0 0) [] (.slice A N c) g0 0 c R (.slice DA Dn Dc) (.slice RA Rn Rc) (fun _ _ => infC) := mk_new hro (by omega) (by omega) (fun g h1 h2 => (hfar g (by omega)).trans (HB3.out.block g h2)) (by omega) (Nat.le_refl _) hxm5 ⟨hbb, by omega⟩ (by omega)
    clear hbE hz1 hro hbz hbz2
    clear hfar hxm5 hbV hbb hxbV hxsV hxm hW5
    obtain ⟨g0, hmk⟩ := hmk5
    have hpn : (sideOf (ixN D) p).n = N := by rw [sideOf_n, <- HN.out]; exact sizeC_small (by rw [HN.out]; omega)
    have hpc := piece_any HDL.out p wg HP.out W5 W0.heap.size W5.heap.size b N (.slice none 0 0) [] (.slice A N c) g0 0 c R (.slice DA Dn Dc) (.slice RA Rn Rc) (fun _ _ => infC) _ hmk (HD0.out.fr hb5) (HT0.out.fr hb5) (by rw [hpn]; simp) (fun _ _ _ => rfl) (fun _ _ => infC_is)
    unfold MadeP at hpc
    simp only [List.length_nil, List.nil_append] at hpc
    obtain ⟨a, haE⟩ : ∃ a, sideOf (ixN D) p = a := ⟨_, rfl⟩
    have hok : (sideOf (ixN D) p).Ok := sideOf_ok _ p (Pat.Ok.wb HP.out)
    rw [haE] at hpc hpn hok ⊢
    have y0 := Blk.cell hxb5 0; have y1 := Blk.cell hxb5 1; have y2 := Blk.cell hxb5 2; have y3 := Blk.cell hxb5 3; have y4 := Blk.cell hxb5 4; have y5 := Blk.cell hxb5 5
    simp only [List.getElem?_toArray, List.getElem?_cons_zero, List.getElem?_cons_succ] at y0 y1 y2 y3 y4 y5
    have HPC := Lib.hid hpc; have HPN := Lib.hid hpn; have HOK := Lib.hid hok; have HXS := Lib.hid hxs5; have HB5 := Lib.hid hb5; have HSZ5 := Lib.hid hb5.size
    clear hpc hpn hok hxs5 hb5 hmk haE hxb5 hsz5 hz0
    go_wp2_with fail
    refine HPC.out.mono ?_
    clear y0 y1 y2 y3 y4 y5
    rintro e w6 ⟨v6, sv6, rfl, hp6, hmk6, hfr6⟩
    obtain ⟨FA, fc, EA, ec, rfl, hpf, hpe, -, -, -, -, -, -⟩ := hp6.parts
    obtain ⟨nf, hnf⟩ : ∃ n, (doorsOf 0 a.first).length = n := ⟨_, rfl⟩
    obtain ⟨ne, hne⟩ : ∃ n, (doorsOf 0 a.ends).length = n := ⟨_, rfl⟩
    obtain ⟨z, hz⟩ : ∃ z, a.none_ = z := ⟨_, rfl⟩
    rw [hnf] at hpf; rw [hne] at hpe
    rw [hnf, hne, hz]
    clear hnf hne hp6
    obtain ⟨sA, sc, hsv⟩ := own_slice hmk6.sets
    obtain ⟨m6, hm6⟩ : ∃ m, a.sets.length = m := ⟨_, rfl⟩
    obtain ⟨W7, hW7⟩ : ∃ W7, w6.alloc (.cells #[.slice FA nf fc, .slice EA ne ec, .int .i64 z] 87) = W7 := ⟨_, rfl⟩
    have hb7 : Below w6.heap.size w6 W7 := by rw [<- hW7]; exact (Below.refl _ _).alloc (Nat.le_refl _) _
    have hxp : Blk W7 w6.heap.size 87 #[.slice FA nf fc, .slice EA ne ec, .int .i64 z] := by rw [<- hW7]; exact Blk.new _ _ _
    have hb57 : Below W0.heap.size W0 W7 := (HB5.out.trans hfr6.below).trans (hb7.mono (Nat.le_trans HSZ5.out hfr6.size))
    have hsz7 : W0.heap.size <= w6.heap.size := Nat.le_trans HSZ5.out hfr6.size
    have hxs7 : Blk W7 (w.heap.size + 1 + 1) 39 #[.slice none 0 0, .slice none 0 0, .slice none 0 0, .slice none 0 0, .int .i64 0] := Blk.below (Blk.below HXS.out hfr6.below (by have := HZ0.out; omega)) hb7 (by have := HZ0.out; omega)
    have hmk7 := hmk6.bel hb7
    have hf7 := hpf.bel hb7; have he7 := hpe.bel hb7
    have hk0 : w6.cell? ⟨b, 0, none⟩ = some (.slice sA m6 sc) := by
     have := Blk.cell hmk6.box 0
     rw [hsv, hm6] at this
     exact this
    obtain ⟨P, hP⟩ : ∃ P, w6.heap.size = P := ⟨_, rfl⟩
    rw [hP] at hxp hb7 hsz7
    have hrf : ∀ W, Below W7.heap.size W7 W -> (fun w' : World => w'.cell? ⟨b, 0, none⟩ = some (.slice sA m6 sc) /\ w'.cell? ⟨P, 0, none⟩ = some (.slice FA nf fc) /\ w'.cell? ⟨P, 1, none⟩ = some (.slice EA ne ec) /\ w'.cell? ⟨P, 2, none⟩ = some (.int .i64 z)) W := fun W hW => ⟨bel_q hW (bel_q (by rw [hP]; exact hb7) hk0), bel_q hW (Blk.cell hxp 0), bel_q hW (Blk.cell hxp 1), bel_q hW (Blk.cell hxp 2)⟩
    have HRG := Lib.hid hrf; have HF7 := Lib.hid hf7; have HE7 := Lib.hid he7; have HM7 := Lib.hid hmk7; have HXS7 := Lib.hid hxs7; have HB7 := Lib.hid hb57; have HZ := Lib.hid hz; have HSV := Lib.hid hsv; have HM6 := Lib.hid hm6; have HW7 := Lib.hid hW7; have HPE := Lib.hid hP; have HSP := Lib.hid hsz7
    clear hpf hpe hmk6 hfr6 hsv hm6 hb7 hxp hb57 hsz7 hxs7 hmk7 hf7 he7 hk0 hrf hz hW7 hP
    go_wp2_with fail
    rw [HW7.out]
    try rw [HPE.out]
    refine region_x 17 (fun w' : World => w'.cell? ⟨b, 0, none⟩ = some (.slice sA m6 sc) /\ w'.cell? ⟨P, 0, none⟩ = some (.slice FA nf fc) /\ w'.cell? ⟨P, 1, none⟩ = some (.slice EA ne ec) /\ w'.cell? ⟨P, 2, none⟩ = some (.int .i64 z)) (by kernel_rfl) ?_
    have hR0 : Below W7.heap.size W7 W7.drew := (Below.refl _ _).drew
    have hS := HRG.out _ hR0
    obtain ⟨V2, eV⟩ : ∃ W', W7.drew = W' := ⟨_, rfl⟩
    rw [eV] at hS hR0 ⊢
    clear eV
    refine tkx (i := 0) (v := ?_) hS ?_ ?_
    rotate_left
    ·rintro w' ⟨c0, d0, d1, d2⟩
     go_simp
     try with_reducible rfl
    try simp only [Act.put, zq1, zq2, zq3, zq4, zq5, zq6]
    refine tkx (i := 1) (v := ?_) hS ?_ ?_
    rotate_left
    ·rintro w' ⟨c0, d0, d1, d2⟩
     go_simp
     try with_reducible rfl
    try simp only [Act.put, zq1, zq2, zq3, zq4, zq5, zq6]
    refine tkx (i := 2) (v := ?_) hS ?_ ?_
    rotate_left
    ·rintro w' ⟨c0, d0, d1, d2⟩
     go_simp
     try with_reducible rfl
    try simp only [Act.put, zq1, zq2, zq3, zq4, zq5, zq6]
    refine tkx (i := 3) (v := ?_) hS ?_ ?_
    rotate_left
    ·rintro w' ⟨c0, d0, d1, d2⟩
     go_simp
     try with_reducible rfl
    try simp only [Act.put, zq1, zq2, zq3, zq4, zq5, zq6]
    refine tkx (i := 4) (v := ?_) hS ?_ ?_
    rotate_left
    ·rintro w' ⟨c0, d0, d1, d2⟩
     go_simp
     try with_reducible rfl
    try simp only [Act.put, zq1, zq2, zq3, zq4, zq5, zq6]
    refine tkx (i := 5) (v := ?_) hS ?_ ?_
    rotate_left
    ·rintro w' ⟨c0, d0, d1, d2⟩
     go_simp
     try with_reducible rfl
    try simp only [Act.put, zq1, zq2, zq3, zq4, zq5, zq6]
    refine tkx (i := 7) (v := ?_) hS ?_ ?_
    rotate_left
    ·rintro w' ⟨c0, d0, d1, d2⟩
     go_simp
     try with_reducible rfl
    try simp only [Act.put, zq1, zq2, zq3, zq4, zq5, zq6]
    refine tkx (i := 8) (v := ?_) hS ?_ ?_
    rotate_left
    ·rintro w' ⟨c0, d0, d1, d2⟩
     go_simp
     try with_reducible rfl
    try simp only [Act.put, zq1, zq2, zq3, zq4, zq5, zq6]
    refine tkx (i := 9) (v := ?_) hS ?_ ?_
    rotate_left
    ·rintro w' ⟨c0, d0, d1, d2⟩
     go_simp
     try with_reducible rfl
    try simp only [Act.put, zq1, zq2, zq3, zq4, zq5, zq6]
    refine tkx (i := 11) (v := ?_) hS ?_ ?_
    rotate_left
    ·rintro w' ⟨c0, d0, d1, d2⟩
     go_simp
     try with_reducible rfl
    try simp only [Act.put, zq1, zq2, zq3, zq4, zq5, zq6]
    refine tkx (i := 13) (v := ?_) hS ?_ ?_
    rotate_left
    ·rintro w' ⟨c0, d0, d1, d2⟩
     go_simp
     try with_reducible rfl
    try simp only [Act.put, zq1, zq2, zq3, zq4, zq5, zq6]
    refine tkx (i := 14) (v := ?_) hS ?_ ?_
    rotate_left
    ·rintro w' ⟨c0, d0, d1, d2⟩
     go_simp
     try with_reducible rfl
    try simp only [Act.put, zq1, zq2, zq3, zq4, zq5, zq6]
    refine anyX_g (i := 6) (by kernel_rfl) (by decide) rfl (by rfl) ?_
    intro K hK
    try simp only [zq1, zq2, zq3]
    refine wp_enterE #[.slice FA nf fc, .int .i64 (N : Nat)] Tryz.func42 (by kernel_rfl) (by kernel_rfl) ?_ (costs_any (HF7.out.bel hR0) N (by omega) (doorsOf_doors _ HOK.out.cf _ _ (by rw [HOK.out.lf, HPN.out]; omega))) ?_
    ·go_simp
    rintro e w8 ⟨gf, rfl, hgf, hxf, hb8⟩
    refine ⟨_, rfl, ?_⟩
    have hR8 := hR0.trans (hb8.mono hR0.size)
    have hS8 := HRG.out _ hR8
    have hz8 := hR0.size
    refine hK _ _ hS8 ?_
    clear hK
    try simp only [Act.put, zq1, zq2, zq3, zq4, zq5, zq6]
    refine anyX_g (i := 10) (by kernel_rfl) (by decide) rfl (by rfl) ?_
    intro K hK
    try simp only [zq1, zq2, zq3]
    refine wp_enterE #[.slice EA ne ec, .int .i64 (N : Nat)] Tryz.func42 (by kernel_rfl) (by kernel_rfl) ?_ (costs_any (HE7.out.bel hR8) N (by omega) (doorsOf_doors _ HOK.out.ce _ _ (by rw [HOK.out.le, HPN.out]; omega))) ?_
    ·go_simp
    rintro e w9 ⟨ge, rfl, hge, hxe, hb9⟩
    refine ⟨_, rfl, ?_⟩
    have hR9 := hR8.trans (hb9.mono hR8.size)
    have hS9 := HRG.out _ hR9
    have hz9 := hR8.size
    replace hxf := Blk.below hxf hb9 hxf.lt
    refine hK _ _ hS9 ?_
    clear hK
    try simp only [Act.put, zq1, zq2, zq3, zq4, zq5, zq6]
    refine anyX_g (i := 12) (by kernel_rfl) (by decide) rfl (by rfl) ?_
    intro K hK
    try simp only [zq1, zq2, zq3]
    refine wp_enterE #[.pointer (some ⟨b, 0, none⟩)] Tryz.func43 (by kernel_rfl) (by kernel_rfl) ?_ (arcs_any (HM7.out.bel hR9)) ?_
    ·go_simp
    rintro e w10 ⟨va, rfl, hoa, hb10⟩
    refine ⟨_, rfl, ?_⟩
    have hR10 := hR9.trans (hb10.mono hR9.size)
    have hS10 := HRG.out _ hR10
    have hz10 := hR9.size
    replace hxf := Blk.below hxf hb10 hxf.lt
    replace hxe := Blk.below hxe hb10 hxe.lt
    refine hK _ _ hS10 ?_
    clear hK
    try simp only [Act.put, zq1, zq2, zq3, zq4, zq5, zq6]
    have hcf := costsD_doors a.first HOK.out.cf; have hce := costsD_doors a.ends HOK.out.ce
    rw [HOK.out.lf, HPN.out] at hcf; rw [HOK.out.le, HPN.out] at hce
    rw [hcf] at hxf; rw [hce] at hxe
    clear hcf hce
    obtain ⟨aA, ac, hva⟩ : ∃ A c, va = .slice A (arcsOf N (putM (fun _ _ => infC) 0 a.n a.arc)).length c := by
     rcases hoa.form encA_len (by omega) with ⟨e, e2, _⟩ | ⟨g, cap, e, _⟩
     ·exact ⟨none, 0, by rw [e, e2]⟩
     ·exact ⟨_, _, e⟩
    obtain ⟨na, hna⟩ : ∃ n, (arcsOf N (putM (fun _ _ => infC) 0 a.n a.arc)).length = n := ⟨_, rfl⟩
    rw [hna] at hva hoa
    subst hva
    refine tkx (i := 15) (v := ?_) hS10 ?_ ?_
    rotate_left
    ·rintro w' ⟨c0, d0, d1, d2⟩
     go_simp
     try with_reducible rfl
    try simp only [Act.put, zq1, zq2, zq3, zq4, zq5, zq6]
    have hxs := Blk.below HXS7.out hR10 HXS7.out.lt
    have r0 := Blk.cell hxs 0; have r1 := Blk.cell hxs 1; have r2 := Blk.cell hxs 2; have r3 := Blk.cell hxs 3; have r4 := Blk.cell hxs 4
    have fr0 := Blk.frozen hxs 0; have fr1 := Blk.frozen hxs 1; have fr2 := Blk.frozen hxs 2; have fr3 := Blk.frozen hxs 3; have fr4 := Blk.frozen hxs 4
    simp only [List.getElem?_toArray, List.getElem?_cons_zero, List.getElem?_cons_succ] at r0 r1 r2 r3 r4
    have hbN : b ≠ w.heap.size + 1 + 1 := by have := HM7.out.bB.1; have := HZ0.out; omega
    have hPN : P ≠ w.heap.size + 1 + 1 := by have := HSP.out; have := HZ0.out; omega
    refine anyX_g (i := 16) (by kernel_rfl) (by decide) rfl (by rfl) ?_
    intro K hK
    try simp only [zq1, zq2, zq3]
    go_simp
    obtain ⟨V11, eV⟩ : ∃ W', (((((w10.setCell ⟨w.heap.size + 1 + 1, 0, none⟩ (.slice sA m6 sc)).setCell ⟨w.heap.size + 1 + 1, 1, none⟩ (.slice (some ⟨gf, 0, none⟩) N N)).setCell ⟨w.heap.size + 1 + 1, 2, none⟩ (.slice (some ⟨ge, 0, none⟩) N N)).setCell ⟨w.heap.size + 1 + 1, 3, none⟩ (.slice aA na ac)).setCell ⟨w.heap.size + 1 + 1, 4, none⟩ (.int .i64 z)) = W' := ⟨_, rfl⟩
    rw [eV]
    have hfar : ∀ g, g ≠ w.heap.size + 1 + 1 -> V11.heap[g]? = w10.heap[g]? := fun g hg => by rw [<- eV]; exact (Below.heap_setCell _ ⟨w.heap.size + 1 + 1, 4, none⟩ _ g hg).trans ((Below.heap_setCell _ ⟨w.heap.size + 1 + 1, 3, none⟩ _ g hg).trans ((Below.heap_setCell _ ⟨w.heap.size + 1 + 1, 2, none⟩ _ g hg).trans ((Below.heap_setCell _ ⟨w.heap.size + 1 + 1, 1, none⟩ _ g hg).trans (Below.heap_setCell _ ⟨w.heap.size + 1 + 1, 0, none⟩ _ g hg))))
    have hS11 : (fun w' : World => w'.cell? ⟨b, 0, none⟩ = some (.slice sA m6 sc) /\ w'.cell? ⟨P, 0, none⟩ = some (.slice FA nf fc) /\ w'.cell? ⟨P, 1, none⟩ = some (.slice EA ne ec) /\ w'.cell? ⟨P, 2, none⟩ = some (.int .i64 z)) V11 := by
     obtain ⟨c0, d0, d1, d2⟩ := hS10
     exact ⟨by rw [cell_of_heap (hfar b hbN)]; exact c0, by rw [cell_of_heap (hfar P hPN)]; exact d0, by rw [cell_of_heap (hfar P hPN)]; exact d1, by rw [cell_of_heap (hfar P hPN)]; exact d2⟩
    have hxs11 : Blk V11 (w.heap.size + 1 + 1) 39 #[.slice sA m6 sc, .slice (some ⟨gf, 0, none⟩) N N, .slice (some ⟨ge, 0, none⟩) N N, .slice aA na ac, .int .i64 z] := by
     rw [<- eV]
     have := ((((hxs.set_ 0 (.slice sA m6 sc)).set_ 1 (.slice (some ⟨gf, 0, none⟩) N N)).set_ 2 (.slice (some ⟨ge, 0, none⟩) N N)).set_ 3 (.slice aA na ac)).set_ 4 (.int .i64 z)
     simpa using this
    have hz11 : V11.heap.size = w10.heap.size := by rw [<- eV]; simp
    have hbel : Below w.heap.size w V11 := by
     have hq : Below w.heap.size w w10 := HB0.out.trans ((HB7.out.trans (hR10.mono HB7.out.size)).mono HB0.out.size)
     rw [<- eV]
     exact ((((hq.setCell (p := ⟨w.heap.size + 1 + 1, 0, none⟩) (by show w.heap.size <= w.heap.size + 1 + 1; omega) _).setCell (p := ⟨w.heap.size + 1 + 1, 1, none⟩) (by show w.heap.size <= w.heap.size + 1 + 1; omega) _).setCell (p := ⟨w.heap.size + 1 + 1, 2, none⟩) (by show w.heap.size <= w.heap.size + 1 + 1; omega) _).setCell (p := ⟨w.heap.size + 1 + 1, 3, none⟩) (by show w.heap.size <= w.heap.size + 1 + 1; omega) _).setCell (p := ⟨w.heap.size + 1 + 1, 4, none⟩) (by show w.heap.size <= w.heap.size + 1 + 1; omega) _
    clear eV
    refine hK _ _ hS11 ?_
    clear hK
    try simp only [Act.put, zq1, zq2, zq3, zq4, zq5, zq6]
    have HXF := Lib.hid hxf; have HXE := Lib.hid hxe; have HOA := Lib.hid hoa; have HNA := Lib.hid hna; have HX11 := Lib.hid hxs11; have HFAR := Lib.hid hfar; have HBEL := Lib.hid hbel; have HR10 := Lib.hid hR10; have HR9 := Lib.hid hR9; have HGF := Lib.hid (Nat.le_trans hz8 hgf); have HGE := Lib.hid (Nat.le_trans hz9 hge); have HZ10 := Lib.hid hz10
    have q0 := Blk.cell hxs11 0; have q1 := Blk.cell hxs11 1; have q2 := Blk.cell hxs11 2; have q3 := Blk.cell hxs11 3; have q4 := Blk.cell hxs11 4
    simp only [List.getElem?_toArray, List.getElem?_cons_zero, List.getElem?_cons_succ] at q0 q1 q2 q3 q4
    clear hS hS8 hS9 hS10 hR0 hR8 hR9 hR10 hxs r0 r1 r2 r3 r4 fr0 fr1 fr2 fr3 fr4 hxf hxe hoa hna hxs11 hfar hbel hgf hge hz8 hz9 hz10 hb8 hb9 hb10 hz11 hbN hPN
    refine anyX_last (by kernel_rfl) (by kernel_rfl) rfl rfl ?_
    try simp only [zq1, zq2, zq3]
    go_simp
    try apply_assumption
    clear hS11
    go_wp2_with fail
    refine bodyPost_ret (v := .tuple #[.agg #[.slice sA m6 sc, .slice (some ⟨gf, 0, none⟩) N N, .slice (some ⟨ge, 0, none⟩) N N, .slice aA na ac, .int .i64 z], .bool true]) (by simp [results, Tryz.results17, go_sem, q0, q1, q2, q3, q4]) rfl ⟨HBEL.out, .inl ⟨by omega, _, rfl, _, _, _, _, by rw [HZ.out], ?_, ?_, ?_, ?_⟩⟩
    all_goals have hsz0 := HB0.out.size; have hsz1 := HSP.out; have hz0 := HZ0.out; have hs7 : W0.heap.size <= W7.heap.size := HB7.out.size; have hs9 := HZ10.out; have hgf9 := HGF.out; have hge9 := HGE.out
    ·have h1 := HM7.out.sets
     rw [HSV.out, HM6.out] at h1
     have h2 : Own w10 w.heap.size (.slice sA m6 sc) m6 a.sets := (h1.below_top HR10.out).more (by have := HM7.out.bB; omega)
     rw [show a.n = m6 from HM6.out]
     exact own_far h2 (fun g hg => HFAR.out g (by have h3 := HM7.out.sets; rw [HSV.out, HM6.out] at h3; have := (h3.lt g hg).1; have := HM7.out.bB; omega))
    ·have h1 := own_of_blk (B := w.heap.size) HXF.out (by omega) (by rw [HOK.out.lf, HPN.out]; omega)
     rw [HOK.out.lf, HPN.out] at h1
     rw [HPN.out]
     exact own_far h1 (fun g hg => HFAR.out g (by have := own_eq hg; have := HGF.out; omega))
    ·have h1 := own_of_blk (B := w.heap.size) HXE.out (by omega) (by rw [HOK.out.le, HPN.out]; omega)
     rw [HOK.out.le, HPN.out] at h1
     rw [HPN.out]
     exact own_far h1 (fun g hg => HFAR.out g (by have := own_eq hg; have := HGE.out; omega))
    ·have h1 := HOA.out
     have hc : arcsOf N (putM (fun _ _ => infC) 0 a.n a.arc) = arcsOf N a.arc := arcsOf_congr fun i j hi hj => by unfold putM; rw [if_pos ⟨⟨by omega, by rw [HPN.out]; omega⟩, by omega, by rw [HPN.out]; omega⟩]; simp
     have hn := HNA.out
     rw [hc] at h1 hn
     rw [HPN.out, hn]
     exact OwnE.more (OwnE.same h1 (fun g hg => HFAR.out g (by have := (h1.lt g hg).1; omega))) (by omega)
   ·intro K hK
    try simp only [zq1, zq2, zq3]
    go_simp
    obtain ⟨V1, eV⟩ : ∃ W', V0.alloc (.cells #[.slice none 0 0, .slice none 0 0, .slice none 0 0, .slice none 0 0] 83) = W' := ⟨_, rfl⟩
    have hb3 : Below V0.heap.size V0 V1 := by rw [<- eV]; exact (Below.refl _ _).alloc (Nat.le_refl _) _
    have hxm0 : Blk V1 V0.heap.size 83 #[.slice none 0 0, .slice none 0 0, .slice none 0 0, .slice none 0 0] := by rw [<- eV]; exact Blk.new _ _ _
    have hz1 : V1.heap.size = V0.heap.size + 1 := by rw [<- eV]; simp
    rw [eV]
    clear eV
    have hxv1 : Blk V1 (w.heap.size + 1) 30 #[.slice DA Dn Dc, .slice RA Rn Rc] /\ Blk V1 w.heap.size 33 #[.int .i64 k1, .int .i64 lo1, .int .i64 hi1, .int .i64 wt1, .string nm, .slice A1 n1 c1] /\ Blk V1 (w.heap.size + 1 + 1) 39 #[.slice none 0 0, .slice none 0 0, .slice none 0 0, .slice none 0 0, .int .i64 0] := ⟨Blk.below HXV.out.1 hb3 HXV.out.1.lt, Blk.below HXV.out.2.1 hb3 HXV.out.2.1.lt, Blk.below HXV.out.2.2 hb3 HXV.out.2.2.lt⟩
    have hS3 := HRF.out _ hxv1.1
    obtain ⟨b, hbE⟩ : ∃ b, V0.heap.size = b := ⟨_, rfl⟩
    rw [hbE] at hxm0 ⊢
    refine hK _ _ hS3 ?_
    clear hK
    try simp only [Act.put, zq1, zq2, zq3, zq4, zq5, zq6]
    refine anyX_g (i := 1) (by kernel_rfl) (by decide) rfl (by rfl) ?_
    intro K hK
    try simp only [zq1, zq2, zq3]
    refine wp_enterE #[.int .i64 (N : Nat)] Tryz.func40 (by kernel_rfl) (by kernel_rfl) ?_ (HNW.out V1) ?_
    ·go_simp
    rintro e w2 ⟨A, c, R, rfl, hb2, hro⟩
    refine ⟨_, rfl, ?_⟩
    have hxv2 : Blk w2 (w.heap.size + 1) 30 #[.slice DA Dn Dc, .slice RA Rn Rc] /\ Blk w2 w.heap.size 33 #[.int .i64 k1, .int .i64 lo1, .int .i64 hi1, .int .i64 wt1, .string nm, .slice A1 n1 c1] /\ Blk w2 (w.heap.size + 1 + 1) 39 #[.slice none 0 0, .slice none 0 0, .slice none 0 0, .slice none 0 0, .int .i64 0] := ⟨Blk.below hxv1.1 hb2 hxv1.1.lt, Blk.below hxv1.2.1 hb2 hxv1.2.1.lt, Blk.below hxv1.2.2 hb2 hxv1.2.2.lt⟩
    have hS2 := HRF.out _ hxv2.1
    have hxm := Blk.below hxm0 hb2 hxm0.lt
    refine hK _ _ hS2 ?_
    clear hK
    try simp only [Act.put, zq1, zq2, zq3, zq4, zq5, zq6]
    refine tkx (i := 3) (v := ?_) hS2 ?_ ?_
    rotate_left
    ·rintro w' ⟨b0, b1⟩
     go_simp
     try with_reducible rfl
    try simp only [Act.put, zq1, zq2, zq3, zq4, zq5, zq6]
    have hxbV := hxv2.2.1; have hxsV := hxv2.2.2
    have hbV := (HBV.out.trans (hb3.mono HBV.out.size)).trans (hb2.mono (Nat.le_trans HBV.out.size hb3.size))
    have hbz := HBV.out.size; have hbz2 := hb2.size
    have hbb : W0.heap.size <= b := by omega
    have r0 := Blk.cell hxm 0; have r1 := Blk.cell hxm 1; have r2 := Blk.cell hxm 2; have r3 := Blk.cell hxm 3
    have fr0 := Blk.frozen hxm 0; have fr1 := Blk.frozen hxm 1; have fr2 := Blk.frozen hxm 2; have fr3 := Blk.frozen hxm 3
    simp only [List.getElem?_toArray, List.getElem?_cons_zero, List.getElem?_cons_succ] at r0 r1 r2 r3
    have HRO := Lib.hid hro; have HBE := Lib.hid hbE; have HZZ := Lib.hid hz1
    clear hS hS2 hS3 hro hb3 hbE hz1 hxv2 hxv1 hxm0 hb2
    obtain ⟨W5, hW5⟩ : ∃ W5, (((w2.setCell ⟨b, 0, none⟩ (.slice none 0 0)).setCell ⟨b, 1, none⟩ (.slice A N c)).setCell ⟨b, 2, none⟩ (.slice DA Dn Dc)).setCell ⟨b, 3, none⟩ (.slice RA Rn Rc) = W5 := ⟨_, rfl⟩
    refine anyX_last (by kernel_rfl) (by kernel_rfl) rfl rfl ?_
    try simp only [zq1, zq2, zq3]
    go_simp
    try apply_assumption
    try rw [hW5]
    have hxm5 : Blk W5 b 83 #[.slice none 0 0, .slice A N c, .slice DA Dn Dc, .slice RA Rn Rc] := by
     rw [<- hW5]
     have := (((hxm.set_ 0 (.slice none 0 0)).set_ 1 (.slice A N c)).set_ 2 (.slice DA Dn Dc)).set_ 3 (.slice RA Rn Rc)
     simpa using this
    have hfar : ∀ g, g ≠ b -> W5.heap[g]? = w2.heap[g]? := fun g hg => by rw [<- hW5]; exact (Below.heap_setCell _ ⟨b, 3, none⟩ _ g hg).trans ((Below.heap_setCell _ ⟨b, 2, none⟩ _ g hg).trans ((Below.heap_setCell _ ⟨b, 1, none⟩ _ g hg).trans (Below.heap_setCell _ ⟨b, 0, none⟩ _ g hg)))
    have hsz5 : W5.heap.size = w2.heap.size := by rw [<- hW5]; simp
    have hz0 := HZ0.out
    have hb5 : Below W0.heap.size W0 W5 := by rw [<- hW5]; exact (((hbV.setCell (p := ⟨b, 0, none⟩) hbb _).setCell (p := ⟨b, 1, none⟩) hbb _).setCell (p := ⟨b, 2, none⟩) hbb _).setCell (p := ⟨b, 3, none⟩) hbb _
    have hxb5 : Blk W5 w.heap.size 33 #[.int .i64 k1, .int .i64 lo1, .int .i64 hi1, .int .i64 wt1, .string nm, .slice A1 n1 c1] := (hfar _ (by omega)).trans hxbV
    have hxs5 : Blk W5 (w.heap.size + 1 + 1) 39 #[.slice none 0 0, .slice none 0 0, .slice none 0 0, .slice none 0 0, .int .i64 0] := (hfar _ (by omega)).trans hxsV
    clear r0 r1 r2 r3 fr0 fr1 fr2 fr3
    have hbE := HBE.out; have hz1 := HZZ.out; have hro := HRO.out
    have hmk5 : ∃ g0, MkAt W5 W0.heap.size W5.heap.size b N (.slice none 0 0) [] (.slice A N c) g0 0 c R (.slice DA Dn Dc) (.slice RA Rn Rc) (fun _ _ => infC) := mk_new hro (by omega) (by omega) (fun g h1 h2 => hfar g (by omega)) (by omega) (Nat.le_refl _) hxm5 ⟨hbb, by omega⟩ (by omega)
    clear hbE hz1 hro hbz hbz2
    clear hfar hxm5 hbV hbb hxbV hxsV hxm hW5
    obtain ⟨g0, hmk⟩ := hmk5
    have hpn : (sideOf (ixN D) p).n = N := by rw [sideOf_n, <- HN.out]; exact sizeC_small (by rw [HN.out]; omega)
    have hpc := piece_any HDL.out p wg HP.out W5 W0.heap.size W5.heap.size b N (.slice none 0 0) [] (.slice A N c) g0 0 c R (.slice DA Dn Dc) (.slice RA Rn Rc) (fun _ _ => infC) _ hmk (HD0.out.fr hb5) (HT0.out.fr hb5) (by rw [hpn]; simp) (fun _ _ _ => rfl) (fun _ _ => infC_is)
    unfold MadeP at hpc
    simp only [List.length_nil, List.nil_append] at hpc
    obtain ⟨a, haE⟩ : ∃ a, sideOf (ixN D) p = a := ⟨_, rfl⟩
    have hok : (sideOf (ixN D) p).Ok := sideOf_ok _ p (Pat.Ok.wb HP.out)
    rw [haE] at hpc hpn hok ⊢
    have y0 := Blk.cell hxb5 0; have y1 := Blk.cell hxb5 1; have y2 := Blk.cell hxb5 2; have y3 := Blk.cell hxb5 3; have y4 := Blk.cell hxb5 4; have y5 := Blk.cell hxb5 5
    simp only [List.getElem?_toArray, List.getElem?_cons_zero, List.getElem?_cons_succ] at y0 y1 y2 y3 y4 y5
    have HPC := Lib.hid hpc; have HPN := Lib.hid hpn; have HOK := Lib.hid hok; have HXS := Lib.hid hxs5; have HB5 := Lib.hid hb5; have HSZ5 := Lib.hid hb5.size
    clear hpc hpn hok hxs5 hb5 hmk haE hxb5 hsz5 hz0
    go_wp2_with fail
    refine HPC.out.mono ?_
    clear y0 y1 y2 y3 y4 y5
    rintro e w6 ⟨v6, sv6, rfl, hp6, hmk6, hfr6⟩
    obtain ⟨FA, fc, EA, ec, rfl, hpf, hpe, -, -, -, -, -, -⟩ := hp6.parts
    obtain ⟨nf, hnf⟩ : ∃ n, (doorsOf 0 a.first).length = n := ⟨_, rfl⟩
    obtain ⟨ne, hne⟩ : ∃ n, (doorsOf 0 a.ends).length = n := ⟨_, rfl⟩
    obtain ⟨z, hz⟩ : ∃ z, a.none_ = z := ⟨_, rfl⟩
    rw [hnf] at hpf; rw [hne] at hpe
    rw [hnf, hne, hz]
    clear hnf hne hp6
    obtain ⟨sA, sc, hsv⟩ := own_slice hmk6.sets
    obtain ⟨m6, hm6⟩ : ∃ m, a.sets.length = m := ⟨_, rfl⟩
    obtain ⟨W7, hW7⟩ : ∃ W7, w6.alloc (.cells #[.slice FA nf fc, .slice EA ne ec, .int .i64 z] 87) = W7 := ⟨_, rfl⟩
    have hb7 : Below w6.heap.size w6 W7 := by rw [<- hW7]; exact (Below.refl _ _).alloc (Nat.le_refl _) _
    have hxp : Blk W7 w6.heap.size 87 #[.slice FA nf fc, .slice EA ne ec, .int .i64 z] := by rw [<- hW7]; exact Blk.new _ _ _
    have hb57 : Below W0.heap.size W0 W7 := (HB5.out.trans hfr6.below).trans (hb7.mono (Nat.le_trans HSZ5.out hfr6.size))
    have hsz7 : W0.heap.size <= w6.heap.size := Nat.le_trans HSZ5.out hfr6.size
    have hxs7 : Blk W7 (w.heap.size + 1 + 1) 39 #[.slice none 0 0, .slice none 0 0, .slice none 0 0, .slice none 0 0, .int .i64 0] := Blk.below (Blk.below HXS.out hfr6.below (by have := HZ0.out; omega)) hb7 (by have := HZ0.out; omega)
    have hmk7 := hmk6.bel hb7
    have hf7 := hpf.bel hb7; have he7 := hpe.bel hb7
    have hk0 : w6.cell? ⟨b, 0, none⟩ = some (.slice sA m6 sc) := by
     have := Blk.cell hmk6.box 0
     rw [hsv, hm6] at this
     exact this
    obtain ⟨P, hP⟩ : ∃ P, w6.heap.size = P := ⟨_, rfl⟩
    rw [hP] at hxp hb7 hsz7
    have hrf : ∀ W, Below W7.heap.size W7 W -> (fun w' : World => w'.cell? ⟨b, 0, none⟩ = some (.slice sA m6 sc) /\ w'.cell? ⟨P, 0, none⟩ = some (.slice FA nf fc) /\ w'.cell? ⟨P, 1, none⟩ = some (.slice EA ne ec) /\ w'.cell? ⟨P, 2, none⟩ = some (.int .i64 z)) W := fun W hW => ⟨bel_q hW (bel_q (by rw [hP]; exact hb7) hk0), bel_q hW (Blk.cell hxp 0), bel_q hW (Blk.cell hxp 1), bel_q hW (Blk.cell hxp 2)⟩
    have HRG := Lib.hid hrf; have HF7 := Lib.hid hf7; have HE7 := Lib.hid he7; have HM7 := Lib.hid hmk7; have HXS7 := Lib.hid hxs7; have HB7 := Lib.hid hb57; have HZ := Lib.hid hz; have HSV := Lib.hid hsv; have HM6 := Lib.hid hm6; have HW7 := Lib.hid hW7; have HPE := Lib.hid hP; have HSP := Lib.hid hsz7
    clear hpf hpe hmk6 hfr6 hsv hm6 hb7 hxp hb57 hsz7 hxs7 hmk7 hf7 he7 hk0 hrf hz hW7 hP
    go_wp2_with fail
    rw [HW7.out]
    try rw [HPE.out]
    refine region_x 17 (fun w' : World => w'.cell? ⟨b, 0, none⟩ = some (.slice sA m6 sc) /\ w'.cell? ⟨P, 0, none⟩ = some (.slice FA nf fc) /\ w'.cell? ⟨P, 1, none⟩ = some (.slice EA ne ec) /\ w'.cell? ⟨P, 2, none⟩ = some (.int .i64 z)) (by kernel_rfl) ?_
    have hR0 : Below W7.heap.size W7 W7.drew := (Below.refl _ _).drew
    have hS := HRG.out _ hR0
    obtain ⟨V2, eV⟩ : ∃ W', W7.drew = W' := ⟨_, rfl⟩
    rw [eV] at hS hR0 ⊢
    clear eV
    refine tkx (i := 0) (v := ?_) hS ?_ ?_
    rotate_left
    ·rintro w' ⟨c0, d0, d1, d2⟩
     go_simp
     try with_reducible rfl
    try simp only [Act.put, zq1, zq2, zq3, zq4, zq5, zq6]
    refine tkx (i := 1) (v := ?_) hS ?_ ?_
    rotate_left
    ·rintro w' ⟨c0, d0, d1, d2⟩
     go_simp
     try with_reducible rfl
    try simp only [Act.put, zq1, zq2, zq3, zq4, zq5, zq6]
    refine tkx (i := 2) (v := ?_) hS ?_ ?_
    rotate_left
    ·rintro w' ⟨c0, d0, d1, d2⟩
     go_simp
     try with_reducible rfl
    try simp only [Act.put, zq1, zq2, zq3, zq4, zq5, zq6]
    refine tkx (i := 3) (v := ?_) hS ?_ ?_
    rotate_left
    ·rintro w' ⟨c0, d0, d1, d2⟩
     go_simp
     try with_reducible rfl
    try simp only [Act.put, zq1, zq2, zq3, zq4, zq5, zq6]
    refine tkx (i := 4) (v := ?_) hS ?_ ?_
    rotate_left
    ·rintro w' ⟨c0, d0, d1, d2⟩
     go_simp
     try with_reducible rfl
    try simp only [Act.put, zq1, zq2, zq3, zq4, zq5, zq6]
    refine tkx (i := 5) (v := ?_) hS ?_ ?_
    rotate_left
    ·rintro w' ⟨c0, d0, d1, d2⟩
     go_simp
     try with_reducible rfl
    try simp only [Act.put, zq1, zq2, zq3, zq4, zq5, zq6]
    refine tkx (i := 7) (v := ?_) hS ?_ ?_
    rotate_left
    ·rintro w' ⟨c0, d0, d1, d2⟩
     go_simp
     try with_reducible rfl
    try simp only [Act.put, zq1, zq2, zq3, zq4, zq5, zq6]
    refine tkx (i := 8) (v := ?_) hS ?_ ?_
    rotate_left
    ·rintro w' ⟨c0, d0, d1, d2⟩
     go_simp
     try with_reducible rfl
    try simp only [Act.put, zq1, zq2, zq3, zq4, zq5, zq6]
    refine tkx (i := 9) (v := ?_) hS ?_ ?_
    rotate_left
    ·rintro w' ⟨c0, d0, d1, d2⟩
     go_simp
     try with_reducible rfl
    try simp only [Act.put, zq1, zq2, zq3, zq4, zq5, zq6]
    refine tkx (i := 11) (v := ?_) hS ?_ ?_
    rotate_left
    ·rintro w' ⟨c0, d0, d1, d2⟩
     go_simp
     try with_reducible rfl
    try simp only [Act.put, zq1, zq2, zq3, zq4, zq5, zq6]
    refine tkx (i := 13) (v := ?_) hS ?_ ?_
    rotate_left
    ·rintro w' ⟨c0, d0, d1, d2⟩
     go_simp
     try with_reducible rfl
    try simp only [Act.put, zq1, zq2, zq3, zq4, zq5, zq6]
    refine tkx (i := 14) (v := ?_) hS ?_ ?_
    rotate_left
    ·rintro w' ⟨c0, d0, d1, d2⟩
     go_simp
     try with_reducible rfl
    try simp only [Act.put, zq1, zq2, zq3, zq4, zq5, zq6]
    refine anyX_g (i := 6) (by kernel_rfl) (by decide) rfl (by rfl) ?_
    intro K hK
    try simp only [zq1, zq2, zq3]
    refine wp_enterE #[.slice FA nf fc, .int .i64 (N : Nat)] Tryz.func42 (by kernel_rfl) (by kernel_rfl) ?_ (costs_any (HF7.out.bel hR0) N (by omega) (doorsOf_doors _ HOK.out.cf _ _ (by rw [HOK.out.lf, HPN.out]; omega))) ?_
    ·go_simp
    rintro e w8 ⟨gf, rfl, hgf, hxf, hb8⟩
    refine ⟨_, rfl, ?_⟩
    have hR8 := hR0.trans (hb8.mono hR0.size)
    have hS8 := HRG.out _ hR8
    have hz8 := hR0.size
    refine hK _ _ hS8 ?_
    clear hK
    try simp only [Act.put, zq1, zq2, zq3, zq4, zq5, zq6]
    refine anyX_g (i := 10) (by kernel_rfl) (by decide) rfl (by rfl) ?_
    intro K hK
    try simp only [zq1, zq2, zq3]
    refine wp_enterE #[.slice EA ne ec, .int .i64 (N : Nat)] Tryz.func42 (by kernel_rfl) (by kernel_rfl) ?_ (costs_any (HE7.out.bel hR8) N (by omega) (doorsOf_doors _ HOK.out.ce _ _ (by rw [HOK.out.le, HPN.out]; omega))) ?_
    ·go_simp
    rintro e w9 ⟨ge, rfl, hge, hxe, hb9⟩
    refine ⟨_, rfl, ?_⟩
    have hR9 := hR8.trans (hb9.mono hR8.size)
    have hS9 := HRG.out _ hR9
    have hz9 := hR8.size
    replace hxf := Blk.below hxf hb9 hxf.lt
    refine hK _ _ hS9 ?_
    clear hK
    try simp only [Act.put, zq1, zq2, zq3, zq4, zq5, zq6]
    refine anyX_g (i := 12) (by kernel_rfl) (by decide) rfl (by rfl) ?_
    intro K hK
    try simp only [zq1, zq2, zq3]
    refine wp_enterE #[.pointer (some ⟨b, 0, none⟩)] Tryz.func43 (by kernel_rfl) (by kernel_rfl) ?_ (arcs_any (HM7.out.bel hR9)) ?_
    ·go_simp
    rintro e w10 ⟨va, rfl, hoa, hb10⟩
    refine ⟨_, rfl, ?_⟩
    have hR10 := hR9.trans (hb10.mono hR9.size)
    have hS10 := HRG.out _ hR10
    have hz10 := hR9.size
    replace hxf := Blk.below hxf hb10 hxf.lt
    replace hxe := Blk.below hxe hb10 hxe.lt
    refine hK _ _ hS10 ?_
    clear hK
    try simp only [Act.put, zq1, zq2, zq3, zq4, zq5, zq6]
    have hcf := costsD_doors a.first HOK.out.cf; have hce := costsD_doors a.ends HOK.out.ce
    rw [HOK.out.lf, HPN.out] at hcf; rw [HOK.out.le, HPN.out] at hce
    rw [hcf] at hxf; rw [hce] at hxe
    clear hcf hce
    obtain ⟨aA, ac, hva⟩ : ∃ A c, va = .slice A (arcsOf N (putM (fun _ _ => infC) 0 a.n a.arc)).length c := by
     rcases hoa.form encA_len (by omega) with ⟨e, e2, _⟩ | ⟨g, cap, e, _⟩
     ·exact ⟨none, 0, by rw [e, e2]⟩
     ·exact ⟨_, _, e⟩
    obtain ⟨na, hna⟩ : ∃ n, (arcsOf N (putM (fun _ _ => infC) 0 a.n a.arc)).length = n := ⟨_, rfl⟩
    rw [hna] at hva hoa
    subst hva
    refine tkx (i := 15) (v := ?_) hS10 ?_ ?_
    rotate_left
    ·rintro w' ⟨c0, d0, d1, d2⟩
     go_simp
     try with_reducible rfl
    try simp only [Act.put, zq1, zq2, zq3, zq4, zq5, zq6]
    have hxs := Blk.below HXS7.out hR10 HXS7.out.lt
    have r0 := Blk.cell hxs 0; have r1 := Blk.cell hxs 1; have r2 := Blk.cell hxs 2; have r3 := Blk.cell hxs 3; have r4 := Blk.cell hxs 4
    have fr0 := Blk.frozen hxs 0; have fr1 := Blk.frozen hxs 1; have fr2 := Blk.frozen hxs 2; have fr3 := Blk.frozen hxs 3; have fr4 := Blk.frozen hxs 4
    simp only [List.getElem?_toArray, List.getElem?_cons_zero, List.getElem?_cons_succ] at r0 r1 r2 r3 r4
    have hbN : b ≠ w.heap.size + 1 + 1 := by have := HM7.out.bB.1; have := HZ0.out; omega
    have hPN : P ≠ w.heap.size + 1 + 1 := by have := HSP.out; have := HZ0.out; omega
    refine anyX_g (i := 16) (by kernel_rfl) (by decide) rfl (by rfl) ?_
    intro K hK
    try simp only [zq1, zq2, zq3]
    go_simp
    obtain ⟨V11, eV⟩ : ∃ W', (((((w10.setCell ⟨w.heap.size + 1 + 1, 0, none⟩ (.slice sA m6 sc)).setCell ⟨w.heap.size + 1 + 1, 1, none⟩ (.slice (some ⟨gf, 0, none⟩) N N)).setCell ⟨w.heap.size + 1 + 1, 2, none⟩ (.slice (some ⟨ge, 0, none⟩) N N)).setCell ⟨w.heap.size + 1 + 1, 3, none⟩ (.slice aA na ac)).setCell ⟨w.heap.size + 1 + 1, 4, none⟩ (.int .i64 z)) = W' := ⟨_, rfl⟩
    rw [eV]
    have hfar : ∀ g, g ≠ w.heap.size + 1 + 1 -> V11.heap[g]? = w10.heap[g]? := fun g hg => by rw [<- eV]; exact (Below.heap_setCell _ ⟨w.heap.size + 1 + 1, 4, none⟩ _ g hg).trans ((Below.heap_setCell _ ⟨w.heap.size + 1 + 1, 3, none⟩ _ g hg).trans ((Below.heap_setCell _ ⟨w.heap.size + 1 + 1, 2, none⟩ _ g hg).trans ((Below.heap_setCell _ ⟨w.heap.size + 1 + 1, 1, none⟩ _ g hg).trans (Below.heap_setCell _ ⟨w.heap.size + 1 + 1, 0, none⟩ _ g hg))))
    have hS11 : (fun w' : World => w'.cell? ⟨b, 0, none⟩ = some (.slice sA m6 sc) /\ w'.cell? ⟨P, 0, none⟩ = some (.slice FA nf fc) /\ w'.cell? ⟨P, 1, none⟩ = some (.slice EA ne ec) /\ w'.cell? ⟨P, 2, none⟩ = some (.int .i64 z)) V11 := by
     obtain ⟨c0, d0, d1, d2⟩ := hS10
     exact ⟨by rw [cell_of_heap (hfar b hbN)]; exact c0, by rw [cell_of_heap (hfar P hPN)]; exact d0, by rw [cell_of_heap (hfar P hPN)]; exact d1, by rw [cell_of_heap (hfar P hPN)]; exact d2⟩
    have hxs11 : Blk V11 (w.heap.size + 1 + 1) 39 #[.slice sA m6 sc, .slice (some ⟨gf, 0, none⟩) N N, .slice (some ⟨ge, 0, none⟩) N N, .slice aA na ac, .int .i64 z] := by
     rw [<- eV]
     have := ((((hxs.set_ 0 (.slice sA m6 sc)).set_ 1 (.slice (some ⟨gf, 0, none⟩) N N)).set_ 2 (.slice (some ⟨ge, 0, none⟩) N N)).set_ 3 (.slice aA na ac)).set_ 4 (.int .i64 z)
     simpa using this
    have hz11 : V11.heap.size = w10.heap.size := by rw [<- eV]; simp
    have hbel : Below w.heap.size w V11 := by
     have hq : Below w.heap.size w w10 := HB0.out.trans ((HB7.out.trans (hR10.mono HB7.out.size)).mono HB0.out.size)
     rw [<- eV]
     exact ((((hq.setCell (p := ⟨w.heap.size + 1 + 1, 0, none⟩) (by show w.heap.size <= w.heap.size + 1 + 1; omega) _).setCell (p := ⟨w.heap.size + 1 + 1, 1, none⟩) (by show w.heap.size <= w.heap.size + 1 + 1; omega) _).setCell (p := ⟨w.heap.size + 1 + 1, 2, none⟩) (by show w.heap.size <= w.heap.size + 1 + 1; omega) _).setCell (p := ⟨w.heap.size + 1 + 1, 3, none⟩) (by show w.heap.size <= w.heap.size + 1 + 1; omega) _).setCell (p := ⟨w.heap.size + 1 + 1, 4, none⟩) (by show w.heap.size <= w.heap.size + 1 + 1; omega) _
    clear eV
    refine hK _ _ hS11 ?_
    clear hK
    try simp only [Act.put, zq1, zq2, zq3, zq4, zq5, zq6]
    have HXF := Lib.hid hxf; have HXE := Lib.hid hxe; have HOA := Lib.hid hoa; have HNA := Lib.hid hna; have HX11 := Lib.hid hxs11; have HFAR := Lib.hid hfar; have HBEL := Lib.hid hbel; have HR10 := Lib.hid hR10; have HR9 := Lib.hid hR9; have HGF := Lib.hid (Nat.le_trans hz8 hgf); have HGE := Lib.hid (Nat.le_trans hz9 hge); have HZ10 := Lib.hid hz10
    have q0 := Blk.cell hxs11 0; have q1 := Blk.cell hxs11 1; have q2 := Blk.cell hxs11 2; have q3 := Blk.cell hxs11 3; have q4 := Blk.cell hxs11 4
    simp only [List.getElem?_toArray, List.getElem?_cons_zero, List.getElem?_cons_succ] at q0 q1 q2 q3 q4
    clear hS hS8 hS9 hS10 hR0 hR8 hR9 hR10 hxs r0 r1 r2 r3 r4 fr0 fr1 fr2 fr3 fr4 hxf hxe hoa hna hxs11 hfar hbel hgf hge hz8 hz9 hz10 hb8 hb9 hb10 hz11 hbN hPN
    refine anyX_last (by kernel_rfl) (by kernel_rfl) rfl rfl ?_
    try simp only [zq1, zq2, zq3]
    go_simp
    try apply_assumption
    clear hS11
    go_wp2_with fail
    refine bodyPost_ret (v := .tuple #[.agg #[.slice sA m6 sc, .slice (some ⟨gf, 0, none⟩) N N, .slice (some ⟨ge, 0, none⟩) N N, .slice aA na ac, .int .i64 z], .bool true]) (by simp [results, Tryz.results17, go_sem, q0, q1, q2, q3, q4]) rfl ⟨HBEL.out, .inl ⟨by omega, _, rfl, _, _, _, _, by rw [HZ.out], ?_, ?_, ?_, ?_⟩⟩
    all_goals have hsz0 := HB0.out.size; have hsz1 := HSP.out; have hz0 := HZ0.out; have hs7 : W0.heap.size <= W7.heap.size := HB7.out.size; have hs9 := HZ10.out; have hgf9 := HGF.out; have hge9 := HGE.out
    ·have h1 := HM7.out.sets
     rw [HSV.out, HM6.out] at h1
     have h2 : Own w10 w.heap.size (.slice sA m6 sc) m6 a.sets := (h1.below_top HR10.out).more (by have := HM7.out.bB; omega)
     rw [show a.n = m6 from HM6.out]
     exact own_far h2 (fun g hg => HFAR.out g (by have h3 := HM7.out.sets; rw [HSV.out, HM6.out] at h3; have := (h3.lt g hg).1; have := HM7.out.bB; omega))
    ·have h1 := own_of_blk (B := w.heap.size) HXF.out (by omega) (by rw [HOK.out.lf, HPN.out]; omega)
     rw [HOK.out.lf, HPN.out] at h1
     rw [HPN.out]
     exact own_far h1 (fun g hg => HFAR.out g (by have := own_eq hg; have := HGF.out; omega))
    ·have h1 := own_of_blk (B := w.heap.size) HXE.out (by omega) (by rw [HOK.out.le, HPN.out]; omega)
     rw [HOK.out.le, HPN.out] at h1
     rw [HPN.out]
     exact own_far h1 (fun g hg => HFAR.out g (by have := own_eq hg; have := HGE.out; omega))
    ·have h1 := HOA.out
     have hc : arcsOf N (putM (fun _ _ => infC) 0 a.n a.arc) = arcsOf N a.arc := arcsOf_congr fun i j hi hj => by unfold putM; rw [if_pos ⟨⟨by omega, by rw [HPN.out]; omega⟩, by omega, by rw [HPN.out]; omega⟩]; simp
     have hn := HNA.out
     rw [hc] at h1 hn
     rw [HPN.out, hn]
     exact OwnE.more (OwnE.same h1 (fun g hg => HFAR.out g (by have := (h1.lt g hg).1; omega))) (by omega)
end Go.Proofs.YtfccnadbiglagaaGreat
