/- Contract of table.Load. Rows of bytes of the call's own: append(v, u...); what they read as. slices.Backward over bytes that may turn meanwhile. What put's memory holds; eight bytes from behind: plain. The writer's put. -/
import Derived.Test.YtacgakkcpmhgmaaVTableO
import Derived.Test.YtacgakkcpmhgmaaVTableH
import Derived.RangeFuncNested
import Derived.RangeFuncBound
import Derived.RangeFuncCalls
import Derived.RangeFuncLeaves
import Derived.Shelf.Abstract
import Derived.Shelf.RegionOpen
import Derived.WalkKit
import Derived.OwnWalkIn
import Derived.TacticsInMore
import Derived.LoopNIn
import Derived.LoopIn
set_option linter.unusedVariables false
set_option linter.unusedSimpArgs false
namespace Go.Proofs.Ytacgakkcpmhgmaa
open Go Go.RowKit Go.Proofs
theorem flat_each {α : Type} {en : α -> List Int} (l : List α) {i : Nat} {d : α} (hi : i < l.length) : (en (l.getD i d)).length <= (l.flatMap en).length := by
 induction l generalizing i with
 | nil => simp at hi
 | cons a l ih =>
   cases i with
   | zero => simp
   | succ i =>
     have := ih (i := i) (by simpa using hi)
     simp only [List.getD_cons_succ, List.flatMap_cons, List.length_append]
     omega
theorem rdT_lens {L r : List Int} {t : Tab} (h : rdT none L = some (t, r)) : t.bn.length <= L.length /\ t.fn.length <= L.length /\ t.fe.length <= L.length /\ ∀ i, i < t.fe.length -> (t.fe.getD i []).length <= L.length := by
 have e := congrArg List.length (rdT_back h)
 simp only [enT, List.length_append] at e
 have g1 := flat_ge (en := enN) codecN.pos t.bn
 have g2 := flat_ge (en := enN) codecN.pos t.fn
 have g3 := flat_ge (en := enVecs) codecVecs.pos t.fe
 have a1 : (enRows t.bn).length = (t.bn.flatMap enN).length + 1 := rfl
 have a2 : (enRows t.fn).length = (t.fn.flatMap enN).length + 1 := rfl
 have a3 : (enEmits t.fe).length = (t.fe.flatMap enVecs).length + 1 := rfl
 refine ⟨by omega, by omega, by omega, fun i hi => ?_⟩
 have g4 := flat_each (en := enVecs) t.fe (d := []) hi
 rw [enVecs_len] at g4
 omega
theorem VecRow.frb {w w' : World} {B b : Nat} {v : Value} {l : List V3} (h : VecRow w B v l) (hf : Fr (fun q => q = b) w w') (hb : b < B) : VecRow w' B v l := by
 obtain ⟨g, f, e, hg, hx, hv⟩ := h
 exact ⟨g, f, e, hg, hf.blk hx (fun e => by omega), hv⟩
theorem VecRows.frb {w w' : World} {B b : Nat} {v : Value} {l : List (List V3)} (h : VecRows w B v l) (hf : Fr (fun q => q = b) w w') (hb : b < B) : VecRows w' B v l := by
 obtain ⟨g, f, e, hg, hx, hv⟩ := h
 exact ⟨g, f, e, hg, hf.blk hx (fun e => by omega), fun i hi => (hv i hi).frb hf hb⟩
theorem TabO.fr {w w' : World} {B b : Nat} {vc vl vbn vbo vfn vfe : Value} {t : Tab} (h : TabO w B vc vl vbn vbo vfn vfe t) (hf : Fr (fun q => q = b) w w') (hb : b < B) : TabO w' B vc vl vbn vbo vfn vfe t :=
 ⟨h.c.fr hf hb, h.l.fr hf hb, h.bn.fr hf hb, h.bo.fr hf hb, h.fn.fr hf hb, h.fe.frb hf hb⟩
theorem VecRow.below {w w' : World} {B : Nat} {v : Value} {l : List V3} (h : VecRow w B v l) (hb : Below w.heap.size w w') : VecRow w' B v l := by
 obtain ⟨g, f, e, hg, hx, hv⟩ := h
 exact ⟨g, f, e, hg, hx.below hb hx.lt, hv⟩
theorem TabO.below {w w' : World} {B : Nat} {vc vl vbn vbo vfn vfe : Value} {t : Tab} (h : TabO w B vc vl vbn vbo vfn vfe t) (hb : Below w.heap.size w w') : TabO w' B vc vl vbn vbo vfn vfe t := by
 have r1 : ∀ {v l}, IntRow w B v l -> IntRow w' B v l := fun ⟨g, e, ho⟩ => ⟨g, e, ho.below_top hb⟩
 have r2 : ∀ {v l}, IntRows w B v l -> IntRows w' B v l := fun ⟨g, f, e, hg, hx, hv⟩ => ⟨g, f, e, hg, hx.below hb hx.lt, fun i hi => (hv i hi).below_top hb⟩
 have r3 : ∀ {v l}, VecRows w B v l -> VecRows w' B v l := fun ⟨g, f, e, hg, hx, hv⟩ => ⟨g, f, e, hg, hx.below hb hx.lt, fun i hi => (hv i hi).below hb⟩
 exact ⟨r1 h.c, r1 h.l, r2 h.bn, r1 h.bo, r2 h.fn, r3 h.fe⟩
theorem TabO.mono {w : World} {B B' : Nat} {vc vl vbn vbo vfn vfe : Value} {t : Tab} (h : TabO w B vc vl vbn vbo vfn vfe t) (hb : B' <= B) : TabO w B' vc vl vbn vbo vfn vfe t :=
 ⟨h.c.mono hb, h.l.mono hb, h.bn.mono hb, h.bo.mono hb, h.fn.mono hb, h.fe.mono hb⟩
theorem tab_six {w : World} {B b1 : Nat} {vc vl vbn vbo vfn vfe : Value} {t : Tab} {cs : Array Value} {vs : Nat -> Value} (h : TabO w B vc vl vbn vbo vfn vfe t) (hx : Blk w b1 32 cs) (hb : b1 < B) :
  TabO ((((((w.setCell ⟨b1, 0, none⟩ (vs 0)).setCell ⟨b1, 1, none⟩ (vs 1)).setCell ⟨b1, 2, none⟩ (vs 2)).setCell ⟨b1, 3, none⟩ (vs 3)).setCell ⟨b1, 4, none⟩ (vs 4)).setCell ⟨b1, 5, none⟩ (vs 5)) B vc vl vbn vbo vfn vfe t := by
  have x0 := hx
  have x1 := x0.set_ 0 (vs 0)
  have x2 := x1.set_ 1 (vs 1)
  have x3 := x2.set_ 2 (vs 2)
  have x4 := x3.set_ 3 (vs 3)
  have x5 := x4.set_ 4 (vs 4)
  exact (((((h.set_ x0).set_ x1).set_ x2).set_ x3).set_ x4).set_ x5
def LoadE (w w' : World) (e : Ending) (bs : List Int) : Prop :=
 (∃ vc vl vbn vbo vfn vfe t, loadP bs t /\ e = .returned (.tuple #[.agg #[vc, vl, vbn, vbo, vfn, vfe], .bool true]) /\ TabO w' w.heap.size vc vl vbn vbo vfn vfe t /\ TabR w' vc vl vbn vbo vfn vfe t) \/
 ((∀ t, ¬ loadP bs t) /\ e = .returned (.tuple #[.agg #[.slice none 0 0, .slice none 0 0, .slice none 0 0, .slice none 0 0, .slice none 0 0, .slice none 0 0], .bool false]))
theorem numsK_all (bs : List Int) : numsB bs = numsK ((bs.length - 0) / 8) (bs.drop 0) := rfl
theorem sealed_load {n at_ : Nat} {bs : List Int} {br : Bool} {t : List Int × List Int × List (List Int) × List Int × List (List Int) × List (List V3)} {r : Option (List Int)} (hl : bs.length = n) (ht : tableN (some (numsB bs)) = (t, r))
  (hn : r = none -> br = true /\ at_ = n) (hs : ∀ L, r = some L -> br = false /\ at_ % 8 = 0 /\ L = numsK ((n - at_) / 8) (bs.drop at_)) (hle : at_ <= n) :
  (∀ u, loadP bs u ↔ ((at_ + 8 = n /\ br = false /\ un8 ((bs.drop at_).take 8) = sumI (bs.take at_)) /\ u = tabOf t /\ RightT u)) /\ ((at_ + 8 = n /\ br = false /\ un8 ((bs.drop at_).take 8) = sumI (bs.take at_)) -> ∃ r', rdT none (numsB bs) = some (tabOf t, r')) := by
  rcases tableN_rd (numsB bs) with ⟨t', r', h1, h2, h3⟩ | ⟨h1, h2⟩
  ·rw [ht] at h2 h3
   simp only at h2 h3
   subst h3
   obtain ⟨hb, h8, hL⟩ := hs r' h2
   refine ⟨fun u => ⟨?_, ?_⟩, fun _ => ⟨_, h1⟩⟩
   ·rintro ⟨e8, s, q1, q2, q3⟩
    rw [h1] at q1
    simp only [Option.some.injEq, Prod.mk.injEq] at q1
    obtain ⟨rfl, rfl⟩ := q1
    have hk : (n - at_) / 8 = 1 := by
     have := congrArg List.length hL
     rw [numsK_len] at this
     simpa using this.symm
    rw [hk] at hL
    simp only [numsK, List.cons.injEq, and_true] at hL
    have ha : at_ + 8 = n := by omega
    refine ⟨⟨ha, hb, ?_⟩, rfl, q3⟩
    rw [<- hL, q2, show bs.length - 8 = at_ by omega]
   ·rintro ⟨⟨ha, -, hsum⟩, rfl, q3⟩
    have hk : (n - at_) / 8 = 1 := by omega
    rw [hk] at hL
    simp only [numsK] at hL
    subst hL
    exact ⟨by omega, _, h1, by rw [hsum, show bs.length - 8 = at_ by omega], q3⟩
  ·rw [ht] at h2
   simp only at h2
   obtain ⟨hb, _⟩ := hn h2
   refine ⟨fun u => ⟨?_, ?_⟩, ?_⟩
   ·rintro ⟨e8, s, q1, _⟩
    rw [h1] at q1; cases q1
   ·rintro ⟨⟨_, e, _⟩, _⟩
    rw [hb] at e; cases e
   ·rintro ⟨_, e, _⟩
    rw [hb] at e; cases e
end Go.Proofs.Ytacgakkcpmhgmaa
namespace Go.Proofs.Ytacgakkcpmhgmaa
open Go Go.RowKit Go.Proofs
theorem run_concatB (ty : TypeId) {w : World} {B n m : Nat} {v u : Value} {l l' : List Int} (hown : OwnE encB 5 1 w B v n l) (hu : ReadsE encB 1 w u m l') (hnm : n + m <= 1000000000) (hB : B <= w.heap.size) :
  ∃ v' w', (Builtin.append_ #[23, 23] ty #[v, u]).run Try.prog w = .ok v' w' /\ OwnE encB 5 1 w' B v' (n + m) (l ++ l') /\ Below B w w' /\ w.grownBy w' v.ownBlock /\ (v'.ownBlock = v.ownBlock \/ v'.ownBlock = some w.heap.size) := by
  obtain ⟨i0, hi, hz0, hz1, hz2⟩ := info_parts info_byte
  obtain ⟨h1, a, cap, rfl, h2, h3, h4, h5⟩ := hu
  cases m with
  | zero =>
    have hy : l' = [] := List.eq_nil_of_length_eq_zero h1
    subst hy
    cases a with
    | none =>
      have := h4 rfl
      subst this
      exact ⟨v, w, run_append_owned_none w B 23 ty 5 i0 1 Try.underlying23 hi v n _ hown, by simpa using hown, Below.refl _ _, ⟨rfl, rfl, rfl, Nat.le_refl _, fun _ _ _ => rfl⟩, .inl rfl⟩
    | some ad =>
      obtain ⟨v', w', hr, q2, q3, _, q5⟩ := run_append_own_at (P := Try.prog) w B 23 ty 5 i0 _ 1 1 Try.underlying23 hi hz0 hz1 hz2 rfl (by omega) v n _ hown
       ad 0 cap [] rfl (fun j u hj => by simp at hj) (by simp) (by unfold maxLen; omega) (by omega) hB
      exact ⟨v', w', hr, by unfold OwnE; simpa using q2, (Below.refl _ _).grown q3 hB (fun k hk => (hown.lt k hk).1), q3, q5⟩
  | succ m =>
    have hl0 : 0 < l'.length := by omega
    obtain ⟨b, off, rfl, -⟩ := h5 0 l'[0] (List.getElem?_eq_getElem hl0)
    have hfl : (l'.flatMap encB).length = l'.length * 1 := flatMap_len encB 1 encB_len l'
    have hcells : ∀ j u, (l'.flatMap encB)[j]? = some u -> w.cell? ((⟨b, off, none⟩ : Addr).add j) = some u := fun j u hj => by
     have e : (⟨b, off, none⟩ : Addr).add j = ⟨b, off + j, none⟩ := by unfold Addr.add; split <;> simp_all
     rw [e]
     have hlt : j < (l'.flatMap encB).length := by
      rcases Nat.lt_or_ge j (l'.flatMap encB).length with h | h
      ·exact h
      ·rw [List.getElem?_eq_none h] at hj; cases hj
     have hil : j / 1 < l'.length := by omega
     have hj2 : (l'.flatMap encB)[j / 1 * 1 + j % 1]? = some u := by rw [show j / 1 * 1 + j % 1 = j by omega]; exact hj
     rw [flatMap_at encB 1 encB_len l' (j / 1) (j % 1) hil (by omega)] at hj2
     obtain ⟨b', off', e', hc⟩ := h5 (j / 1) _ (List.getElem?_eq_getElem hil)
     simp only [Option.some.injEq, Addr.mk.injEq, and_true] at e'
     obtain ⟨rfl, rfl⟩ := e'
     have := hc _ _ hj2
     rw [show off + j / 1 * 1 + j % 1 = off + j by omega] at this
     exact this
    obtain ⟨v', w', hr, q2, q3, _, q5⟩ := run_append_own_at (P := Try.prog) w B 23 ty 5 i0 _ 1 1 Try.underlying23 hi hz0 hz1 hz2 rfl (by omega) v n _ hown
     ⟨b, off, none⟩ (m + 1) cap (l'.flatMap encB) (by rw [hfl, h1]) hcells (by intro u hu; obtain ⟨x, _, hx⟩ := List.mem_flatMap.1 hu; simp [encB] at hx; subst hx; rfl) (by unfold maxLen; omega) (by omega) hB
    exact ⟨v', w', hr, by unfold OwnE; rw [List.flatMap_append]; exact q2, (Below.refl _ _).grown q3 hB (fun k hk => (hown.lt k hk).1), q3, q5⟩
theorem wpList_concatB {w : World} {ops : Array Oper} {rest : List Oper} {o : Oper} {a : Act} {Q : Exit -> Act -> World -> Prop} (hgd : o.guard = none) (s x : Operand)
  (ho : o.op = .call { callee := .builtin .append, args := #[s, x], argTypes := #[23, 23] })
  (B : Nat) (v : Value) (n : Nat) (l : List Int) (hs : a.eval s = v) (hown : OwnE encB 5 1 w B v n l)
  (u : Value) (m : Nat) (l' : List Int) (hx : a.eval x = u) (hu : ReadsE encB 1 w u m l') (hnm : n + m <= 1000000000) (hB : B <= w.heap.size)
  (h : ∀ v' w', OwnE encB 5 1 w' B v' (n + m) (l ++ l') -> w.grownBy w' v.ownBlock -> (v'.ownBlock = v.ownBlock \/ v'.ownBlock = some w.heap.size) -> wpList Try.prog ops Q rest (a.put o.dst v') w') : wpList Try.prog ops Q (o :: rest) a w := by
  obtain ⟨v', w', hr, h2, h3, h4, h5⟩ := run_concatB o.type hown hu hnm hB
  refine wpList_plain hgd fun K hK => ?_
  unfold Oper.wp execOp
  simp only [ho, resolve, invoke, builtin, Sem.run_bind, Sem.run_pure, Result.andThen_ok, List.map_toArray, List.map_cons, List.map_nil, hs, hx, hr]
  exact hK _ _ (h v' w' h2 h4 h5)
theorem wp_concatB {w : World} {o : Oper} {a : Act} {K : Act -> World -> Prop} {Q : Exit -> Act -> World -> Prop} (hgd : o.guard = none) (s x : Operand)
  (ho : o.op = .call { callee := .builtin .append, args := #[s, x], argTypes := #[23, 23] })
  (B : Nat) (v : Value) (n : Nat) (l : List Int) (hs : a.eval s = v) (hown : OwnE encB 5 1 w B v n l)
  (u : Value) (m : Nat) (l' : List Int) (hx : a.eval x = u) (hu : ReadsE encB 1 w u m l') (hnm : n + m <= 1000000000) (hB : B <= w.heap.size)
  (h : ∀ v' w', OwnE encB 5 1 w' B v' (n + m) (l ++ l') -> w.grownBy w' v.ownBlock -> (v'.ownBlock = v.ownBlock \/ v'.ownBlock = some w.heap.size) -> K (a.put o.dst v') w') : Oper.wp Try.prog o a w K Q := by
  obtain ⟨v', w', hr, h2, h3, h4, h5⟩ := run_concatB o.type hown hu hnm hB
  unfold Oper.wp execOp
  simp only [ho, resolve, invoke, builtin, Sem.run_bind, Sem.run_pure, Result.andThen_ok, List.map_toArray, List.map_cons, List.map_nil, hs, hx, hr]
  exact h v' w' h2 h4 h5
def BRow (w : World) (B : Nat) (v : Value) (l : List Int) : Prop := OwnE encB 5 1 w B v l.length l
section
variable {w w' : World} {B b : Nat} {v : Value} {l : List Int}
theorem BRow.bytes (h : BRow w B v l) (hb : ∀ x ∈ l, ByteI x) : BytesR w v l.length l := ⟨OwnE.reads h encB_len (by decide), hb⟩
theorem BRow.lt (h : BRow w B v l) : ∀ j, v.ownBlock = some j -> B <= j /\ j < w.heap.size := OwnE.lt h
theorem BRow.same (h : BRow w B v l) (hk : ∀ g, v.ownBlock = some g -> w'.heap[g]? = w.heap[g]?) : BRow w' B v l := OwnE.same h hk
theorem BRow.below (h : BRow w B v l) (hb : Below w.heap.size w w') : BRow w' B v l := OwnE.below_top h hb
theorem BRow.more {B' : Nat} (h : BRow w B v l) (hB : B' <= B) : BRow w B' v l := OwnE.more h hB
theorem BRow.nil (w : World) (B : Nat) : BRow w B (.slice none 0 0) [] := OwnE.nil w B
theorem BRow.form (h : BRow w B v l) : (v = .slice none 0 0 /\ l = []) \/ ∃ g cap, v = .slice (some ⟨g, 0, none⟩) l.length cap /\ B <= g /\ g < w.heap.size /\ l.length <= cap /\ cap <= maxLen := by
 rcases OwnE.form h encB_len (by decide) with ⟨h1, _, h3⟩ | ⟨g, cap, h1, h2, h3, h4, h5, _⟩
 ·exact .inl ⟨h1, h3⟩
 ·exact .inr ⟨g, cap, h1, h2, h3, h4, h5⟩
theorem BRow.ne (h : BRow w B v l) {t : TypeId} {cs : Array Value} (hx : Blk w b t cs) (ht : t ≠ 5) : v.ownBlock ≠ some b := fun e => by
 rcases h.2 with ⟨rfl, _⟩ | ⟨g, cap, cur, rfl, hg, hh, r⟩
 ·cases e
 ·simp only [Value.ownBlock, Option.some.injEq] at e
  subst e
  have := hx.symm.trans hh
  simp only [Option.some.injEq, Obj.cells.injEq] at this
  exact ht this.2.1
theorem BRow.slice (h : BRow w B v l) : ∃ A c, v = .slice A l.length c /\ l.length <= c /\ c <= 9223372036854775807 := by
 rcases h.form with ⟨rfl, rfl⟩ | ⟨g, cap, rfl, _, _, h1, h2⟩
 ·exact ⟨none, 0, rfl, Nat.le_refl _, by decide⟩
 ·exact ⟨_, cap, rfl, h1, by unfold maxLen at h2; exact h2⟩
end
end Go.Proofs.Ytacgakkcpmhgmaa
namespace Go.Proofs.Ytacgakkcpmhgmaa
open Go Go.RowKit Go.Proofs Go.Shelf
attribute [local go_sem] Oper.semAt_some
theorem cell_of_heap {w w' : World} {g : Nat} (h : w'.heap[g]? = w.heap[g]?) (i : Nat) : w'.cell? ⟨g, i, none⟩ = w.cell? ⟨g, i, none⟩ := by
 unfold World.cell?
 simp only [h]
def BytesAt (b off len : Nat) (W : World) : Prop := ∀ j, j < len -> ∃ y, W.cell? ⟨b, off + j, none⟩ = some (.int .u8 y)
def KeepBack (b off len Bs : Nat) (W W' : World) : Prop := W'.heap[Bs]? = W.heap[Bs]? /\ (BytesAt b off len W -> BytesAt b off len W')
theorem KeepBack.t {b off len Bs : Nat} {A B C : World} (h : KeepBack b off len Bs A B) (k : KeepBack b off len Bs B C) : KeepBack b off len Bs A C := ⟨k.1.trans h.1, fun q => k.2 (h.2 q)⟩
def backs (len k : Nat) : List (Fin len) := (List.finRange len).reverse.take k
theorem backs_succ (len k : Nat) (h : k < len) : backs len (k + 1) = backs len k ++ [⟨len - 1 - k, by omega⟩] := by
 have hk : k < (List.finRange len).reverse.length := by simpa using h
 unfold backs
 rw [List.take_add_one, List.getElem?_eq_getElem hk]
 congr 1
 simp
theorem backs_length (len k : Nat) (h : k <= len) : (backs len k).length = k := by simp [backs]; omega
end Go.Proofs.Ytacgakkcpmhgmaa
namespace Go.Proofs.Ytacgakkcpmhgmaa
open Go Go.RowKit Go.Proofs
def arr8 (f : Nat -> Int) : Array Value := #[.int .u8 (f 0), .int .u8 (f 1), .int .u8 (f 2), .int .u8 (f 3), .int .u8 (f 4), .int .u8 (f 5), .int .u8 (f 6), .int .u8 (f 7)]
theorem arr8_set (f : Nat -> Int) {i : Nat} (hi : i < 8) (y : Int) : (arr8 f).setIfInBounds i (.int .u8 y) = arr8 (fun j => if j = i then y else f j) := by
 rcases (show i = 0 \/ i = 1 \/ i = 2 \/ i = 3 \/ i = 4 \/ i = 5 \/ i = 6 \/ i = 7 by omega) with rfl | rfl | rfl | rfl | rfl | rfl | rfl | rfl <;> simp [arr8]
theorem arr8_at (f : Nat -> Int) {i : Nat} (hi : i < 8) : (arr8 f)[i]? = some (.int .u8 (f i)) := by
 rcases (show i = 0 \/ i = 1 \/ i = 2 \/ i = 3 \/ i = 4 \/ i = 5 \/ i = 6 \/ i = 7 by omega) with rfl | rfl | rfl | rfl | rfl | rfl | rfl | rfl <;> rfl
def fillStep (x : Int) (s : Nat × (Nat -> Int)) (i : Fin 8) : Nat × (Nat -> Int) := (s.1 + 1, fun j => if j = i.1 then x / 256 ^ s.1 % 256 else s.2 j)
def fill8 (x : Int) (p : List (Fin 8)) : Nat × (Nat -> Int) := p.foldl (fillStep x) (0, fun _ => 0)
theorem fill8_snoc (x : Int) (p : List (Fin 8)) (i : Fin 8) : fill8 x (p ++ [i]) = ((fill8 x p).1 + 1, fun j => if j = i.1 then x / 256 ^ (fill8 x p).1 % 256 else (fill8 x p).2 j) := by simp [fill8, fillStep, List.foldl_append]
theorem fill8_len (x : Int) (p : List (Fin 8)) : (fill8 x p).1 = p.length := by
 have : ∀ (p : List (Fin 8)) (s : Nat × (Nat -> Int)), (p.foldl (fillStep x) s).1 = s.1 + p.length := by
  intro p
  induction p with
  | nil => exact fun s => rfl
  | cons a p ih => intro s; rw [List.foldl_cons, ih]; simp only [fillStep, List.length_cons]; omega
 have := this p (0, fun _ => 0)
 simpa [fill8] using this
theorem backs8 : backs 8 8 = [7, 6, 5, 4, 3, 2, 1, 0] := by decide
theorem fill8_all (x : Int) : (List.range 8).map (fill8 x (backs 8 8)).2 = be8 x := by
 rw [backs8]
 have h3 : ((3 : Fin 8) : Nat) = 3 := rfl
 have h4 : ((4 : Fin 8) : Nat) = 4 := rfl
 have h5 : ((5 : Fin 8) : Nat) = 5 := rfl
 have h6 : ((6 : Fin 8) : Nat) = 6 := rfl
 have h7 : ((7 : Fin 8) : Nat) = 7 := rfl
 simp [fill8, fillStep, List.range_succ, be8, h3, h4, h5, h6, h7]
theorem take_succ_bytes {l : List Int} {i : Nat} (h : i < l.length) (L : List Int) : L ++ bytesN (l.take (i + 1)) = (L ++ bytesN (l.take i)) ++ be8 (l.getD i 0) := by
 have e : l.take (i + 1) = l.take i ++ [l.getD i 0] := by
  rw [List.take_add_one, List.getElem?_eq_getElem h, List.getD_eq_getElem?_getD, List.getElem?_eq_getElem h]; rfl
 rw [e, bytesN_app]
 simp [bytesN]
def mark (D : Nat) : Deferred := { target := .collected D, args := #[] }
structure Marks (B : Nat) (Ds : List Nat) (W : World) : Prop where
 nd : Ds.Nodup
 at_ : ∀ D ∈ Ds, B <= D /\ W.heap[D]? = some (.deferred (some []))
section
variable {w W W' : World} {b B : Nat} {vb vc : Value} {M : List Int} {row : Option Nat} {Ds : List Nat}
theorem BRow.turn {v : Value} {l : List Int} (h : BRow W B v l) (hg : W.grownBy W' row) (hr : ∀ r, row = some r -> ∃ o : Obj, W.heap[r]? = some o /\ o.isCells = false) : BRow W' B v l := by
 refine h.same (fun g hv => ?_)
 rcases h.2 with ⟨rfl, _⟩ | ⟨g', cap, cur, rfl, _, hgb, _⟩
 ·cases hv
 ·simp only [Value.ownBlock, Option.some.injEq] at hv
  subst hv
  exact grownBy_keeps_cells hg hr hgb rfl
theorem Blk.turn {g : Nat} {t : TypeId} {cs : Array Value} (h : Blk W g t cs) (hg : W.grownBy W' row) (hr : ∀ r, row = some r -> ∃ o : Obj, W.heap[r]? = some o /\ o.isCells = false) : Blk W' g t cs := (grownBy_keeps_cells hg hr h rfl).trans h
theorem Marks.below (h : Marks B Ds W) (hb : Below W.heap.size W W') : Marks B Ds W' :=
 ⟨h.nd, fun D hD => ⟨(h.at_ D hD).1, (hb.block D (Array.getElem?_eq_some_iff.1 (h.at_ D hD).2).1).trans (h.at_ D hD).2⟩⟩
theorem Marks.cons (h : Marks B Ds W) {D : Nat} (hD : W.heap[D]? = some (.deferred (some []))) (hB : B <= D) (hn : D ∉ Ds) : Marks B (D :: Ds) W :=
 ⟨List.nodup_cons.2 ⟨hn, h.nd⟩, fun E hE => by
  rcases List.mem_cons.1 hE with rfl | hE
  ·exact ⟨hB, hD⟩
  ·exact h.at_ E hE⟩
end
theorem leaves_marks {P : Program} {F : Fence} {n : Nat} {fn : Func} {tmps : Array Value} {R : Ending -> World -> Prop} {B : Nat} {v : Value} (J : World -> Prop)
  (hJ : ∀ W D, J W -> B <= D -> W.heap[D]? = some (.deferred (some [])) -> J (W.putObj D (.deferred none))) (hR : ∀ W, J W -> (results fn tmps).run P W = .ok v W /\ R (.returned v) W) :
  ∀ (Ds : List Nat) (W : World), Marks B Ds W -> J W -> LeavesInM F n P fn tmps R (Ds.map mark) .returning W
  | [], W, _, hj => ⟨v, hR W hj⟩
  | D :: Ds, W, hm, hj => by
    obtain ⟨h1, h2⟩ := hm.at_ D (by simp)
    refine ⟨by simp, .inl ⟨D, _, rfl, run_takeDeferred h2, ?_⟩⟩
    refine leaves_marks J hJ hR Ds _ ⟨(List.nodup_cons.1 hm.nd).2, fun E hE => ?_⟩ (hJ W D hj h1 h2)
    obtain ⟨h3, h4⟩ := hm.at_ E (by simp [hE])
    refine ⟨h3, ?_⟩
    rw [World.putObj_heap_other (fun e => ?_)]
    ·exact h4
    ·subst e; exact (List.nodup_cons.1 hm.nd).1 hE
end Go.Proofs.Ytacgakkcpmhgmaa
namespace Go.Proofs.Ytacgakkcpmhgmaa
open Go Go.RowKit Go.Proofs
attribute [local go_sem] Oper.semAt_some
def noPanic (R : Exit -> Act -> World -> Prop) : Exit -> Act -> World -> Prop
 | .normal, a, w => R .normal a w
 | .ret, a, w => R .ret a w
 | _, _, _ => False
theorem noPanic_to {R : Exit -> Act -> World -> Prop} : ∀ e a w, noPanic R e a w -> R e a w
 | .normal, _, _, h => h
 | .ret, _, _, h => h
 | .panic _, _, _, h => h.elim
 | .outgrown, _, _, h => h.elim
 | .exit _, _, _, h => h.elim
 | .goto _, _, _, h => h.elim
end Go.Proofs.Ytacgakkcpmhgmaa
