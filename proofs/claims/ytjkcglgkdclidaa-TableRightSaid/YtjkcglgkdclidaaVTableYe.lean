/- Rows of bytes of the call's own: append(v, u...); what they read as. slices.Backward over bytes that may turn meanwhile. What put's memory holds; eight bytes from behind: plain. The writer's put. -/
import Derived.Test.YtjkcglgkdclidaaVTableYd
import Derived.RangeFuncNested
import Derived.RangeFuncBound
import Derived.RangeFuncCalls
import Derived.RangeFuncLeaves
import Derived.Shelf.Abstract
import Derived.Shelf.RegionOpen
import Derived.WalkKit
import Derived.OwnWalkIn
import Derived.TacticsInMore
import Derived.LoopNIn
import Derived.LoopIn
import Derived.Test.YtjkcglgkdclidaaVTableH
set_option linter.unusedVariables false
set_option linter.unusedSimpArgs false
set_option maxRecDepth 100000
set_option maxHeartbeats 8000000
namespace Go.Proofs.Ytjkcglgkdclidaa
open Go Go.RowKit Go.Proofs
theorem run_concatB (ty : TypeId) {w : World} {B n m : Nat} {v u : Value} {l l' : List Int} (hown : OwnE encB 5 1 w B v n l) (hu : ReadsE encB 1 w u m l') (hnm : n + m <= 1000000000) (hB : B <= w.heap.size) :
  ∃ v' w', (Builtin.append_ #[34, 34] ty #[v, u]).run Try.prog w = .ok v' w' /\ OwnE encB 5 1 w' B v' (n + m) (l ++ l') /\ Below B w w' /\ w.grownBy w' v.ownBlock /\ (v'.ownBlock = v.ownBlock \/ v'.ownBlock = some w.heap.size) := by
  obtain ⟨i0, hi, hz0, hz1, hz2⟩ := info_parts info_byte
  obtain ⟨h1, a, cap, rfl, h2, h3, h4, h5⟩ := hu
  cases m with
  | zero =>
    have hy : l' = [] := List.eq_nil_of_length_eq_zero h1
    subst hy
    cases a with
    | none =>
      have := h4 rfl
      subst this
      exact ⟨v, w, run_append_owned_none w B 34 ty 5 i0 1 Try.underlying34 hi v n _ hown, by simpa using hown, Below.refl _ _, ⟨rfl, rfl, rfl, Nat.le_refl _, fun _ _ _ => rfl⟩, .inl rfl⟩
    | some ad =>
      obtain ⟨v', w', hr, q2, q3, _, q5⟩ := run_append_own_at (P := Try.prog) w B 34 ty 5 i0 _ 1 1 Try.underlying34 hi hz0 hz1 hz2 rfl (by omega) v n _ hown
       ad 0 cap [] rfl (fun j u hj => by simp at hj) (by simp) (by unfold maxLen; omega) (by omega) hB
      exact ⟨v', w', hr, by unfold OwnE; simpa using q2, (Below.refl _ _).grown q3 hB (fun k hk => (hown.lt k hk).1), q3, q5⟩
  | succ m =>
    have hl0 : 0 < l'.length := by omega
    obtain ⟨b, off, rfl, -⟩ := h5 0 l'[0] (List.getElem?_eq_getElem hl0)
    have hfl : (l'.flatMap encB).length = l'.length * 1 := flatMap_len encB 1 encB_len l'
    have hcells : ∀ j u, (l'.flatMap encB)[j]? = some u -> w.cell? ((⟨b, off, none⟩ : Addr).add j) = some u := fun j u hj => by
     have e : (⟨b, off, none⟩ : Addr).add j = ⟨b, off + j, none⟩ := by unfold Addr.add; split <;> simp_all
     rw [e]
     have hlt : j < (l'.flatMap encB).length := by
      rcases Nat.lt_or_ge j (l'.flatMap encB).length with h | h
      ·exact h
      ·rw [List.getElem?_eq_none h] at hj; cases hj
     have hil : j / 1 < l'.length := by omega
     have hj2 : (l'.flatMap encB)[j / 1 * 1 + j % 1]? = some u := by rw [show j / 1 * 1 + j % 1 = j by omega]; exact hj
     rw [flatMap_at encB 1 encB_len l' (j / 1) (j % 1) hil (by omega)] at hj2
     obtain ⟨b', off', e', hc⟩ := h5 (j / 1) _ (List.getElem?_eq_getElem hil)
     simp only [Option.some.injEq, Addr.mk.injEq, and_true] at e'
     obtain ⟨rfl, rfl⟩ := e'
     have := hc _ _ hj2
     rw [show off + j / 1 * 1 + j % 1 = off + j by omega] at this
     exact this
    obtain ⟨v', w', hr, q2, q3, _, q5⟩ := run_append_own_at (P := Try.prog) w B 34 ty 5 i0 _ 1 1 Try.underlying34 hi hz0 hz1 hz2 rfl (by omega) v n _ hown
     ⟨b, off, none⟩ (m + 1) cap (l'.flatMap encB) (by rw [hfl, h1]) hcells (by intro u hu; obtain ⟨x, _, hx⟩ := List.mem_flatMap.1 hu; simp [encB] at hx; subst hx; rfl) (by unfold maxLen; omega) (by omega) hB
    exact ⟨v', w', hr, by unfold OwnE; rw [List.flatMap_append]; exact q2, (Below.refl _ _).grown q3 hB (fun k hk => (hown.lt k hk).1), q3, q5⟩
theorem wpList_concatB {w : World} {ops : Array Oper} {rest : List Oper} {o : Oper} {a : Act} {Q : Exit -> Act -> World -> Prop} (hgd : o.guard = none) (s x : Operand)
  (ho : o.op = .call { callee := .builtin .append, args := #[s, x], argTypes := #[34, 34] })
  (B : Nat) (v : Value) (n : Nat) (l : List Int) (hs : a.eval s = v) (hown : OwnE encB 5 1 w B v n l)
  (u : Value) (m : Nat) (l' : List Int) (hx : a.eval x = u) (hu : ReadsE encB 1 w u m l') (hnm : n + m <= 1000000000) (hB : B <= w.heap.size)
  (h : ∀ v' w', OwnE encB 5 1 w' B v' (n + m) (l ++ l') -> w.grownBy w' v.ownBlock -> (v'.ownBlock = v.ownBlock \/ v'.ownBlock = some w.heap.size) -> wpList Try.prog ops Q rest (a.put o.dst v') w') : wpList Try.prog ops Q (o :: rest) a w := by
  obtain ⟨v', w', hr, h2, h3, h4, h5⟩ := run_concatB o.type hown hu hnm hB
  refine wpList_plain hgd fun K hK => ?_
  unfold Oper.wp execOp
  simp only [ho, resolve, invoke, builtin, Sem.run_bind, Sem.run_pure, Result.andThen_ok, List.map_toArray, List.map_cons, List.map_nil, hs, hx, hr]
  exact hK _ _ (h v' w' h2 h4 h5)
theorem wp_concatB {w : World} {o : Oper} {a : Act} {K : Act -> World -> Prop} {Q : Exit -> Act -> World -> Prop} (hgd : o.guard = none) (s x : Operand)
  (ho : o.op = .call { callee := .builtin .append, args := #[s, x], argTypes := #[34, 34] })
  (B : Nat) (v : Value) (n : Nat) (l : List Int) (hs : a.eval s = v) (hown : OwnE encB 5 1 w B v n l)
  (u : Value) (m : Nat) (l' : List Int) (hx : a.eval x = u) (hu : ReadsE encB 1 w u m l') (hnm : n + m <= 1000000000) (hB : B <= w.heap.size)
  (h : ∀ v' w', OwnE encB 5 1 w' B v' (n + m) (l ++ l') -> w.grownBy w' v.ownBlock -> (v'.ownBlock = v.ownBlock \/ v'.ownBlock = some w.heap.size) -> K (a.put o.dst v') w') : Oper.wp Try.prog o a w K Q := by
  obtain ⟨v', w', hr, h2, h3, h4, h5⟩ := run_concatB o.type hown hu hnm hB
  unfold Oper.wp execOp
  simp only [ho, resolve, invoke, builtin, Sem.run_bind, Sem.run_pure, Result.andThen_ok, List.map_toArray, List.map_cons, List.map_nil, hs, hx, hr]
  exact h v' w' h2 h4 h5
def BRow (w : World) (B : Nat) (v : Value) (l : List Int) : Prop := OwnE encB 5 1 w B v l.length l
section
variable {w w' : World} {B b : Nat} {v : Value} {l : List Int}
theorem BRow.bytes (h : BRow w B v l) (hb : ∀ x ∈ l, ByteI x) : BytesR w v l.length l := ⟨OwnE.reads h encB_len (by decide), hb⟩
theorem BRow.lt (h : BRow w B v l) : ∀ j, v.ownBlock = some j -> B <= j /\ j < w.heap.size := OwnE.lt h
theorem BRow.same (h : BRow w B v l) (hk : ∀ g, v.ownBlock = some g -> w'.heap[g]? = w.heap[g]?) : BRow w' B v l := OwnE.same h hk
theorem BRow.below (h : BRow w B v l) (hb : Below w.heap.size w w') : BRow w' B v l := OwnE.below_top h hb
theorem BRow.more {B' : Nat} (h : BRow w B v l) (hB : B' <= B) : BRow w B' v l := OwnE.more h hB
theorem BRow.nil (w : World) (B : Nat) : BRow w B (.slice none 0 0) [] := OwnE.nil w B
theorem BRow.form (h : BRow w B v l) : (v = .slice none 0 0 /\ l = []) \/ ∃ g cap, v = .slice (some ⟨g, 0, none⟩) l.length cap /\ B <= g /\ g < w.heap.size /\ l.length <= cap /\ cap <= maxLen := by
 rcases OwnE.form h encB_len (by decide) with ⟨h1, _, h3⟩ | ⟨g, cap, h1, h2, h3, h4, h5, _⟩
 ·exact .inl ⟨h1, h3⟩
 ·exact .inr ⟨g, cap, h1, h2, h3, h4, h5⟩
theorem BRow.ne (h : BRow w B v l) {t : TypeId} {cs : Array Value} (hx : Blk w b t cs) (ht : t ≠ 5) : v.ownBlock ≠ some b := fun e => by
 rcases h.2 with ⟨rfl, _⟩ | ⟨g, cap, cur, rfl, hg, hh, r⟩
 ·cases e
 ·simp only [Value.ownBlock, Option.some.injEq] at e
  subst e
  have := hx.symm.trans hh
  simp only [Option.some.injEq, Obj.cells.injEq] at this
  exact ht this.2.1
theorem BRow.slice (h : BRow w B v l) : ∃ A c, v = .slice A l.length c /\ l.length <= c /\ c <= 9223372036854775807 := by
 rcases h.form with ⟨rfl, rfl⟩ | ⟨g, cap, rfl, _, _, h1, h2⟩
 ·exact ⟨none, 0, rfl, Nat.le_refl _, by decide⟩
 ·exact ⟨_, cap, rfl, h1, by unfold maxLen at h2; exact h2⟩
end
end Go.Proofs.Ytjkcglgkdclidaa
namespace Go.Proofs.Ytjkcglgkdclidaa
open Go Go.RowKit Go.Proofs Go.Shelf
attribute [local go_sem] Oper.semAt_some
theorem cell_of_heap {w w' : World} {g : Nat} (h : w'.heap[g]? = w.heap[g]?) (i : Nat) : w'.cell? ⟨g, i, none⟩ = w.cell? ⟨g, i, none⟩ := by
 unfold World.cell?
 simp only [h]
def BytesAt (b off len : Nat) (W : World) : Prop := ∀ j, j < len -> ∃ y, W.cell? ⟨b, off + j, none⟩ = some (.int .u8 y)
def KeepBack (b off len Bs : Nat) (W W' : World) : Prop := W'.heap[Bs]? = W.heap[Bs]? /\ (BytesAt b off len W -> BytesAt b off len W')
theorem KeepBack.t {b off len Bs : Nat} {A B C : World} (h : KeepBack b off len Bs A B) (k : KeepBack b off len Bs B C) : KeepBack b off len Bs A C := ⟨k.1.trans h.1, fun q => k.2 (h.2 q)⟩
def backs (len k : Nat) : List (Fin len) := (List.finRange len).reverse.take k
theorem backs_succ (len k : Nat) (h : k < len) : backs len (k + 1) = backs len k ++ [⟨len - 1 - k, by omega⟩] := by
 have hk : k < (List.finRange len).reverse.length := by simpa using h
 unfold backs
 rw [List.take_add_one, List.getElem?_eq_getElem hk]
 congr 1
 simp
theorem backs_length (len k : Nat) (h : k <= len) : (backs len k).length = k := by simp [backs]; omega
theorem back1_in (F : Fence) (n : Nat) (h8 : F.fn 65) (hro : F.round = none) (hn : 1 <= n) (l Bs b off len cap : Nat) (hlen9 : len <= 1000) (J Jx : List (Fin len × Int) -> World -> Prop)
  (hY : ∀ pre x W, J pre W -> pre.length < len -> YieldAt F (n - 1) Try.prog l #[.int .i64 (x.1.1 : Int), .int .u8 x.2] W fun e W' =>
   (e = .returned (.bool true) /\ J (pre ++ [x]) W' /\ KeepBack b off len Bs W W') \/ (e = .returned (.bool false) /\ Jx (pre ++ [x]) W'))
  (W : World) (hBs : W.cell? ⟨Bs, 0, none⟩ = some (.slice (some ⟨b, off, none⟩) len cap)) (hc : BytesAt b off len W) (h0 : J [] W) :
  CallsIn F n Try.prog 65 #[.func (.yield l) #[] #[], .pointer (some ⟨Bs, 0, none⟩)] W fun e W' => (∃ v, e = .returned v) /\
   ((∃ ys, ys.map (fun p => p.1) = backs len len /\ J ys W') \/ (∃ pre, (∃ k, k <= len /\ pre.map (fun p => p.1) = backs len k) /\ Jx pre W')) := by
  refine callsIn_of_wp Try.func65 rfl h8 ?_ hro
  simp only [Try.ntmps65, List.size_toArray, List.length_cons, List.length_nil, Nat.reduceAdd, Nat.reduceSub, Array.replicate_succ, Array.replicate_zero, List.push_toArray, List.append_toArray, List.nil_append, List.cons_append]
  gi_wp2
  gi_loopw [3] (fun i wr => ∃ (k : Nat) (ys : List (Fin len × Int)), k <= len /\ i = .int .i64 ((len : Int) - 1 - k) /\ ys.map (fun p => p.1) = backs len k /\ J ys wr /\ KeepBack b off len Bs W wr)
   (fun i _ => (intOf i + 1).toNat)
  case atStart => exact ⟨0, [], Nat.zero_le _, by simp, rfl, h0, rfl, id⟩
  case round =>
   obtain ⟨k, ys, hk, rfl, hys, hJs, hnx⟩ := hrel
   have hcb : wr.cell? ⟨Bs, 0, none⟩ = some (.slice (some ⟨b, off, none⟩) len cap) := by rw [cell_of_heap hnx.1]; exact hBs
   have hyl : ys.length = k := by have := congrArg List.length hys; rwa [List.length_map, backs_length _ _ hk] at this
   by_cases hlt : k < len
   ·obtain ⟨m, hm⟩ : ∃ m : Nat, m = len - 1 - k := ⟨_, rfl⟩
    have hmI : (len : Int) - 1 - k = (m : Int) := by omega
    have hml : m < len := by omega
    obtain ⟨y, e0⟩ := hnx.2 hc m hml
    have i0 : (0 : Int) <= (m : Int) := Int.natCast_nonneg _
    have i1 : (m : Int) < (len : Int) := by omega
    rw [hmI]
    have HMI := Lib.hid hmI; have HM := Lib.hid hm; clear hm hmI
    obtain ⟨fn, tmps, assign, body, hy, hR⟩ := hY _ (⟨m, hml⟩, y) wr hJs (by rw [hyl]; exact hlt)
    dsimp only at hy
    have HYS := Lib.hid hys; have HYL := Lib.hid hyl
    clear hys hyl
    gi_wp2
    refine hR.mono ?_
    rintro e W3 (⟨rfl, hJ3, hk3⟩ | ⟨rfl, hJx3⟩)
    ·gi_wp2
     go_roundw
     case rel => exact ⟨k + 1, ys ++ [(⟨m, hml⟩, y)], by omega, by have := HMI.out; congr 1; omega, by rw [backs_succ _ _ hlt, List.map_append, HYS.out]; have e : (⟨len - 1 - k, by omega⟩ : Fin len) = ⟨m, hml⟩ := Fin.ext HM.out.symm; rw [e]; rfl, hJ3, hnx.t hk3⟩
     case measure => simp [intOf]
    ·gi_wp2
     refine bodyPost_ret (results_none rfl _ _ _) rfl ?_
     exact ⟨⟨_, rfl⟩, .inr ⟨_, ⟨k + 1, by omega, by rw [backs_succ _ _ hlt, List.map_append, HYS.out]; have e : (⟨len - 1 - k, by omega⟩ : Fin len) = ⟨m, hml⟩ := Fin.ext HM.out.symm; rw [e]; rfl⟩, hJx3⟩⟩
   ·obtain rfl : k = len := by omega
    gi_wp2
    go_end0
    exact ⟨⟨_, rfl⟩, .inl ⟨_, hys, hJs⟩⟩
theorem backward_any (a : Option Addr) (len cap : Nat) (w : World) :
  Calls Try.prog 60 #[.slice a len cap] w fun e w' => e = .returned (.func (.func 65) #[] #[.pointer (some ⟨w.heap.size, 0, none⟩)]) /\ w' = w.alloc (.cells #[.slice a len cap] 34) := by
  go_enter Try.func60, Try.ntmps60
  go_wp2
  go_ret
  exact ⟨rfl, rfl⟩
theorem back_stops (F : Fence) (n : Nat) (h7 : F.fn 65) (hro : F.round = none) (hn : 1 <= n) (Bs b off len cap : Nat) (hlen9 : len <= 1000) (w : World) (hBs : w.cell? ⟨Bs, 0, none⟩ = some (.slice (some ⟨b, off, none⟩) len cap))
  (hc : BytesAt b off len w) :
  SeqStopsK F n Try.prog 65 #[.pointer (some ⟨Bs, 0, none⟩)] (fun x : Fin len × Int => #[Value.int .i64 (x.1.1 : Int), .int .u8 x.2]) (KeepBack b off len Bs) (fun ys => ys.map (fun p => p.1) = backs len len) (fun _ => True) len w := fun l J Jx W hW _ _ hY h0 => by
  refine (back1_in F n h7 hro hn l Bs b off len cap hlen9 J Jx hY W (bel_m hW hBs) (fun j hj => by obtain ⟨y, hy⟩ := hc j hj; exact ⟨y, bel_m hW hy⟩) h0).mono ?_
  rintro e W' ⟨he, ⟨ys, hys, hj⟩ | ⟨pre, _, hj⟩⟩
  ·exact ⟨he, .inl ⟨_, hys, hj⟩⟩
  ·exact ⟨he, .inr ⟨_, trivial, hj⟩⟩
end Go.Proofs.Ytjkcglgkdclidaa
namespace Go.Proofs.Ytjkcglgkdclidaa
open Go Go.RowKit Go.Proofs
def arr8 (f : Nat -> Int) : Array Value := #[.int .u8 (f 0), .int .u8 (f 1), .int .u8 (f 2), .int .u8 (f 3), .int .u8 (f 4), .int .u8 (f 5), .int .u8 (f 6), .int .u8 (f 7)]
theorem arr8_set (f : Nat -> Int) {i : Nat} (hi : i < 8) (y : Int) : (arr8 f).setIfInBounds i (.int .u8 y) = arr8 (fun j => if j = i then y else f j) := by
 rcases (show i = 0 \/ i = 1 \/ i = 2 \/ i = 3 \/ i = 4 \/ i = 5 \/ i = 6 \/ i = 7 by omega) with rfl | rfl | rfl | rfl | rfl | rfl | rfl | rfl <;> simp [arr8]
theorem arr8_at (f : Nat -> Int) {i : Nat} (hi : i < 8) : (arr8 f)[i]? = some (.int .u8 (f i)) := by
 rcases (show i = 0 \/ i = 1 \/ i = 2 \/ i = 3 \/ i = 4 \/ i = 5 \/ i = 6 \/ i = 7 by omega) with rfl | rfl | rfl | rfl | rfl | rfl | rfl | rfl <;> rfl
def fillStep (x : Int) (s : Nat × (Nat -> Int)) (i : Fin 8) : Nat × (Nat -> Int) := (s.1 + 1, fun j => if j = i.1 then x / 256 ^ s.1 % 256 else s.2 j)
def fill8 (x : Int) (p : List (Fin 8)) : Nat × (Nat -> Int) := p.foldl (fillStep x) (0, fun _ => 0)
theorem fill8_snoc (x : Int) (p : List (Fin 8)) (i : Fin 8) : fill8 x (p ++ [i]) = ((fill8 x p).1 + 1, fun j => if j = i.1 then x / 256 ^ (fill8 x p).1 % 256 else (fill8 x p).2 j) := by simp [fill8, fillStep, List.foldl_append]
theorem fill8_len (x : Int) (p : List (Fin 8)) : (fill8 x p).1 = p.length := by
 have : ∀ (p : List (Fin 8)) (s : Nat × (Nat -> Int)), (p.foldl (fillStep x) s).1 = s.1 + p.length := by
  intro p
  induction p with
  | nil => exact fun s => rfl
  | cons a p ih => intro s; rw [List.foldl_cons, ih]; simp only [fillStep, List.length_cons]; omega
 have := this p (0, fun _ => 0)
 simpa [fill8] using this
theorem backs8 : backs 8 8 = [7, 6, 5, 4, 3, 2, 1, 0] := by decide
theorem fill8_all (x : Int) : (List.range 8).map (fill8 x (backs 8 8)).2 = be8 x := by
 rw [backs8]
 have h3 : ((3 : Fin 8) : Nat) = 3 := rfl
 have h4 : ((4 : Fin 8) : Nat) = 4 := rfl
 have h5 : ((5 : Fin 8) : Nat) = 5 := rfl
 have h6 : ((6 : Fin 8) : Nat) = 6 := rfl
 have h7 : ((7 : Fin 8) : Nat) = 7 := rfl
 simp [fill8, fillStep, List.range_succ, be8, h3, h4, h5, h6, h7]
theorem take_succ_bytes {l : List Int} {i : Nat} (h : i < l.length) (L : List Int) : L ++ bytesN (l.take (i + 1)) = (L ++ bytesN (l.take i)) ++ be8 (l.getD i 0) := by
 have e : l.take (i + 1) = l.take i ++ [l.getD i 0] := by
  rw [List.take_add_one, List.getElem?_eq_getElem h, List.getD_eq_getElem?_getD, List.getElem?_eq_getElem h]; rfl
 rw [e, bytesN_app]
 simp [bytesN]
structure PutW (w : World) (b B : Nat) (vb : Value) (W : World) (vc : Value) (M : List Int) : Prop where
 x : Blk W b 71 #[vc]
 o : BRow W B vc M
 at_ : vc.ownBlock = vb.ownBlock \/ ∀ k, vc.ownBlock = some k -> w.heap.size <= k
 fr : Fr (fun q => q = b \/ vb.ownBlock = some q) w W
def mark (D : Nat) : Deferred := { target := .collected D, args := #[] }
structure Marks (B : Nat) (Ds : List Nat) (W : World) : Prop where
 nd : Ds.Nodup
 at_ : ∀ D ∈ Ds, B <= D /\ W.heap[D]? = some (.deferred (some []))
section
variable {w W W' : World} {b B : Nat} {vb vc : Value} {M : List Int} {row : Option Nat} {Ds : List Nat}
theorem BRow.turn {v : Value} {l : List Int} (h : BRow W B v l) (hg : W.grownBy W' row) (hr : ∀ r, row = some r -> ∃ o : Obj, W.heap[r]? = some o /\ o.isCells = false) : BRow W' B v l := by
 refine h.same (fun g hv => ?_)
 rcases h.2 with ⟨rfl, _⟩ | ⟨g', cap, cur, rfl, _, hgb, _⟩
 ·cases hv
 ·simp only [Value.ownBlock, Option.some.injEq] at hv
  subst hv
  exact grownBy_keeps_cells hg hr hgb rfl
theorem Blk.turn {g : Nat} {t : TypeId} {cs : Array Value} (h : Blk W g t cs) (hg : W.grownBy W' row) (hr : ∀ r, row = some r -> ∃ o : Obj, W.heap[r]? = some o /\ o.isCells = false) : Blk W' g t cs := (grownBy_keeps_cells hg hr h rfl).trans h
theorem PutW.turn (h : PutW w b B vb W vc M) (hg : W.grownBy W' row) (hr : ∀ r, row = some r -> w.heap.size <= r /\ ∃ o : Obj, W.heap[r]? = some o /\ o.isCells = false) : PutW w b B vb W' vc M :=
 ⟨h.x.turn hg (fun r e => (hr r e).2), h.o.turn hg (fun r e => (hr r e).2), h.at_, ⟨hg.os.trans h.fr.os, hg.tape.trans h.fr.tape, hg.output.trans h.fr.output, Nat.le_trans h.fr.size hg.size, fun k hk hx => (hg.block k (Nat.lt_of_lt_of_le hk h.fr.size) (fun e => by have := (hr k e.symm).1; omega)).trans (h.fr.block k hk hx)⟩⟩
theorem PutW.below (h : PutW w b B vb W vc M) (hb : Below W.heap.size W W') : PutW w b B vb W' vc M :=
 ⟨h.x.below hb h.x.lt, h.o.below hb, h.at_, h.fr.then_ (Fr.of_below (X := fun _ => False) hb) (fun _ _ e => e.elim)⟩
theorem Marks.below (h : Marks B Ds W) (hb : Below W.heap.size W W') : Marks B Ds W' :=
 ⟨h.nd, fun D hD => ⟨(h.at_ D hD).1, (hb.block D (Array.getElem?_eq_some_iff.1 (h.at_ D hD).2).1).trans (h.at_ D hD).2⟩⟩
theorem Marks.cons (h : Marks B Ds W) {D : Nat} (hD : W.heap[D]? = some (.deferred (some []))) (hB : B <= D) (hn : D ∉ Ds) : Marks B (D :: Ds) W :=
 ⟨List.nodup_cons.2 ⟨hn, h.nd⟩, fun E hE => by
  rcases List.mem_cons.1 hE with rfl | hE
  ·exact ⟨hB, hD⟩
  ·exact h.at_ E hE⟩
theorem PutW.push (h : PutW w b B vb W vc M) {v' : Value} {M' : List Int} (hb : b < w.heap.size) (ho : BRow W' B v' M') (hg : W.grownBy W' vc.ownBlock) (ha : v'.ownBlock = vc.ownBlock \/ v'.ownBlock = some W.heap.size) : PutW w b B vb (W'.setCell ⟨b, 0, none⟩ v') v' M' := by
 have hne := h.o.ne h.x (by decide)
 have hbl := h.x.lt
 have x' : Blk W' b 71 #[vc] := (hg.block b hbl (fun e => hne e.symm)).trans h.x
 refine ⟨by simpa using x'.set_ 0 v', ho.same (fun g hv => Below.heap_setCell _ _ _ _ (fun e => ?_)), ?_, ?_⟩
 ·have e : g = b := e
  subst e
  rcases ha with ha | ha
  ·rw [ha] at hv; exact hne hv
  ·rw [ha] at hv; injection hv with hv; omega
 ·rcases ha with ha | ha
  ·rcases h.at_ with h1 | h1
   ·exact .inl (ha.trans h1)
   ·exact .inr (fun k hk => h1 k (ha ▸ hk))
  ·exact .inr (fun k hk => by rw [ha] at hk; injection hk with hk; have := h.fr.size; omega)
 ·refine (h.fr.then_ (Fr.of_grown (X := fun q => vc.ownBlock = some q) hg (fun k e => e)) (fun k hk e => ?_)).set_ (.inl (.inl rfl)) v'
  rcases h.at_ with h1 | h1
  ·exact .inr (h1 ▸ e)
  ·have := h1 k e; omega
theorem Marks.push (h : Marks B Ds W) {v' : Value} {M : List Int} {B' : Nat} (ho : BRow W B' vc M) (hx : Blk W b 71 #[vc]) (hg : W.grownBy W' vc.ownBlock) : Marks B Ds (W'.setCell ⟨b, 0, none⟩ v') :=
 ⟨h.nd, fun D hD => by
  obtain ⟨h1, h2⟩ := h.at_ D hD
  refine ⟨h1, ?_⟩
  rw [Below.heap_setCell _ _ _ _ (fun e => ?_), hg.block D (Array.getElem?_eq_some_iff.1 h2).1 (fun e => ?_)]
  ·exact h2
  ·rcases ho.2 with ⟨rfl, _⟩ | ⟨g', cap, cur, rfl, _, hgb, _⟩
   ·cases e
   ·simp only [Value.ownBlock, Option.some.injEq] at e
    subst e
    rw [h2] at hgb; cases hgb
  ·have e : D = b := e
   subst e
   have := hx.symm.trans h2
   cases this⟩
end
theorem leaves_marks {P : Program} {F : Fence} {n : Nat} {fn : Func} {tmps : Array Value} {R : Ending -> World -> Prop} {B : Nat} {v : Value} (J : World -> Prop)
  (hJ : ∀ W D, J W -> B <= D -> W.heap[D]? = some (.deferred (some [])) -> J (W.putObj D (.deferred none))) (hR : ∀ W, J W -> (results fn tmps).run P W = .ok v W /\ R (.returned v) W) :
  ∀ (Ds : List Nat) (W : World), Marks B Ds W -> J W -> LeavesInM F n P fn tmps R (Ds.map mark) .returning W
  | [], W, _, hj => ⟨v, hR W hj⟩
  | D :: Ds, W, hm, hj => by
    obtain ⟨h1, h2⟩ := hm.at_ D (by simp)
    refine ⟨by simp, .inl ⟨D, _, rfl, run_takeDeferred h2, ?_⟩⟩
    refine leaves_marks J hJ hR Ds _ ⟨(List.nodup_cons.1 hm.nd).2, fun E hE => ?_⟩ (hJ W D hj h1 h2)
    obtain ⟨h3, h4⟩ := hm.at_ E (by simp [hE])
    refine ⟨h3, ?_⟩
    rw [World.putObj_heap_other (fun e => ?_)]
    ·exact h4
    ·subst e; exact (List.nodup_cons.1 hm.nd).1 hE
end Go.Proofs.Ytjkcglgkdclidaa
namespace Go.Proofs.Ytjkcglgkdclidaa
open Go Go.RowKit Go.Proofs
attribute [local go_sem] Oper.semAt_some
def noPanic (R : Exit -> Act -> World -> Prop) : Exit -> Act -> World -> Prop
 | .normal, a, w => R .normal a w
 | .ret, a, w => R .ret a w
 | _, _, _ => False
theorem noPanic_to {R : Exit -> Act -> World -> Prop} : ∀ e a w, noPanic R e a w -> R e a w
 | .normal, _, _, h => h
 | .ret, _, _, h => h
 | .panic _, _, _, h => h.elim
 | .outgrown, _, _, h => h.elim
 | .exit _, _, _, h => h.elim
 | .goto _, _, _, h => h.elim
theorem put_any {w : World} {b B : Nat} {vb : Value} {L l : List Int} {A : Option Addr} {m cap : Nat} (hx : Blk w b 71 #[vb]) (ho : BRow w B vb L) (hB : B <= w.heap.size) (hr : ReadsI w (.slice A m cap) m l) (hi : ∀ x ∈ l, Int64 x)
  (hne : 0 < m -> ∀ a, A = some a -> a.block ≠ b /\ vb.ownBlock ≠ some a.block) (hlen : L.length + 8 * m <= 100000000) :
  Calls Try.prog 34 #[.pointer (some ⟨b, 0, none⟩), .slice A m cap] w fun e w' => (∃ v, e = .returned v) /\ ∃ vc, PutW w b B vb w' vc (L ++ bytesN l) := by
  obtain ⟨A', c', e, l1, l2, -⟩ := hr.form
  simp only [Value.slice.injEq, true_and] at e
  obtain ⟨rfl, rfl⟩ := e
  have HX := Lib.hid hx; have HI := Lib.hid hi; have HNE := Lib.hid hne; have HL := Lib.hid hlen; have HLL := Lib.hid hr.1
  have HP0 : Hid (PutW w b B vb w vb (L ++ bytesN (l.take 0))) := Lib.hid ⟨hx, by simpa [bytesN] using ho, .inl rfl, Fr.refl _ _⟩
  have hbl := hx.lt
  have HR := Lib.hid hr
  clear hx ho hr hi hne hlen
  refine (callsIn_wide (n := 8)).1 ?_
  refine callsIn_of_wp_marks Try.func34 rfl trivial ?_ rfl
  simp only [Try.ntmps34, List.size_toArray, List.length_cons, List.length_nil, Nat.reduceAdd, Nat.reduceSub, Array.replicate_succ, Array.replicate_zero, List.push_toArray, List.append_toArray, List.nil_append, List.cons_append]
  refine Code.wpIn_mono (Q := noPanic (bodyPostM Fence.wide 8 Try.prog _ _)) noPanic_to ?_
  refine wpIn_wide.2 ?_
  go_wp2_with fail
  refine wp_loop (fun a W => ∃ (i : Nat) (Ds : List Nat) (vc u5 u6 u11 u12 u13 u14 u15 u24 u25 u26 u27 u28 u29 u30 u31 u32 u33 : Value), a = { tmps := #[.pointer (some ⟨b, 0, none⟩), .slice A m cap, undef, undef, undef, u5, u6, undef, .slice A m cap, .int .i64 (m : Int), .int .i64 (i : Int), u11, u12, u13, u14, u15, undef, undef, undef, undef, undef, undef, undef, undef, u24, u25, u26, u27, u28, u29, u30, u31, u32, u33], defers := Ds.map mark } /\ i <= m /\ Hid (PutW w b B vb W vc (L ++ bytesN (l.take i))) /\ Hid (Marks w.heap.size Ds W)) (fun a _ => m - (intOf (a.tmps.getD 10 undef)).toNat) ?start ?round
  case start => exact ⟨0, [], vb, _, _, _, _, _, _, _, _, _, _, _, _, _, _, _, _, _, rfl, Nat.zero_le _, HP0, Lib.hid ⟨List.nodup_nil, fun D hD => by simp at hD⟩⟩
  case round =>
   rintro _ wr ⟨i, Ds, vc, u5, u6, u11, u12, u13, u14, u15, u24, u25, u26, u27, u28, u29, u30, u31, u32, u33, rfl, him, HP, HM⟩
   clear HP0
   have i0 : (0 : Int) <= (i : Int) := Int.natCast_nonneg _
   by_cases hlt : i < m
   ·have i1 : (i : Int) < (m : Int) := by omega
    have hil : i < l.length := by rw [HLL.out]; exact hlt
    have hxi : Int64 (l.getD i 0) := HI.out _ (getD_mem hil)
    have hsrc : ∃ g o, A = some ⟨g, o, none⟩ /\ wr.cell? ⟨g, o + i, none⟩ = some (.int .i64 (l.getD i 0)) := by
     obtain ⟨h1, a, c, h2, h5, h6, h3, h4⟩ := HR.out
     simp only [Value.slice.injEq, true_and] at h2
     obtain ⟨rfl, rfl⟩ := h2
     obtain ⟨g, o, rfl, hc⟩ := h4 i hlt
     obtain ⟨n1, n2⟩ := HNE.out (by omega) _ rfl
     exact ⟨g, o, rfl, HP.out.fr.cell (hc i hlt) (fun e => e.elim n1 n2)⟩
    obtain ⟨g, o, rfl, hcx⟩ := hsrc
    obtain ⟨x, hxx⟩ : ∃ x, l.getD i 0 = x := ⟨_, rfl⟩
    rw [hxx] at hcx hxi
    have HXX := Lib.hid hxx; have HXI := Lib.hid hxi
    clear hxx hxi
    obtain ⟨W0, hW0⟩ : ∃ W, ((wr.alloc (.cells #[.int .i64 x] 3)).alloc (.cells #[.int .u8 0, .int .u8 0, .int .u8 0, .int .u8 0, .int .u8 0, .int .u8 0, .int .u8 0, .int .u8 0] 99)).alloc (.cells #[.slice (some ⟨wr.heap.size + 1, 0, none⟩) 8 8] 34) = W := ⟨_, rfl⟩
    have hb0 : Below wr.heap.size wr W0 := by rw [<- hW0]; exact (((Below.refl _ _).alloc (Nat.le_refl _) _).alloc (by simp) _).alloc (by simp; omega) _
    have hz0 : W0.heap.size = wr.heap.size + 3 := by rw [<- hW0]; simp
    have hgb : ∀ (X : World) (C : Nat) (t : TypeId) (c : Array Value), X.heap.size = C -> Blk (X.alloc (.cells c t)) C t c := fun X C t c e => by rw [<- e]; exact Blk.new _ _ _
    have x0 : Blk W0 wr.heap.size 3 #[.int .i64 x] := by rw [<- hW0]; exact Blk.alloc (Blk.alloc (Blk.new _ _ _) _) _
    have x1 : Blk W0 (wr.heap.size + 1) 99 (arr8 fun _ => 0) := by rw [<- hW0]; exact Blk.alloc (hgb _ _ _ _ (by simp)) _
    have x2 : Blk W0 (wr.heap.size + 2) 34 #[.slice (some ⟨wr.heap.size + 1, 0, none⟩) 8 8] := by rw [<- hW0]; exact hgb _ _ _ _ (by simp)
    obtain ⟨bn, hbn⟩ : ∃ n, wr.heap.size = n := ⟨_, rfl⟩
    rw [hbn] at hW0 x0 x1 x2 hz0
    have HW0 := Lib.hid hW0
    have HBN := Lib.hid hbn
    clear hW0 hgb
    go_wp2_with fail
    refine (backward_any _ _ _ _).mono ?_
    rintro e W0' ⟨rfl, hW0'⟩
    have e0 : W0' = W0 := hW0'.trans HW0.out
    clear hW0' HW0
    subst e0
    simp only [World.size_alloc, hbn]
    clear hbn
    have hbb : BytesAt (bn + 1) 0 8 W0' := fun j hj => ⟨0, by rw [Nat.zero_add, x1.cell, arr8_at _ hj]⟩
    have HB0 := Lib.hid hb0
    go_wp2_with fail
    refine (wpIn_wide (n := 8)).1 ?_
    refine wpIn_rangeFunc_ownH rfl (by omega) (gf := 65) (lb := #[.pointer (some ⟨bn + 1 + 1, 0, none⟩)]) rfl trivial (enters_of Try.func65 (by kernel_rfl) rfl)
     (back_stops Fence.wide (8 - 1) trivial rfl (by omega) (bn + 1 + 1) (bn + 1) 0 8 8 (by omega) W0' (by simpa using x2.cell 0) hbb) KeepBack.t
     (fun W l o o' hl h hc _ => ⟨(grownBy_putObj' W l o').block (bn + 1 + 1) (by have := (Array.getElem?_eq_some_iff.1 h).1; omega) (fun e => by cases e; omega), fun q j hj => by obtain ⟨y, hy⟩ := q j hj; exact ⟨y, cell_kept hy (grownBy_putObj' W l o') (fun r e => by cases e; exact ⟨o, h, hc⟩)⟩⟩) (Below.refl _ _) (fun _ => rfl)
     (fun (pre : List (Fin 8 × Int)) W => Blk W bn 3 #[.int .i64 (x / 256 ^ pre.length)] /\ Blk W (bn + 1) 99 (arr8 (fill8 x (pre.map fun p : Fin 8 × Int => p.1)).2) /\ Below wr.heap.size wr W /\ bn + 3 <= W.heap.size)
     (fun _ _ _ => False)
     (fun pre X Y row hs hg hr => ⟨hs.1.turn hg (fun r e => (hr r e).2), hs.2.1.turn hg (fun r e => (hr r e).2), hs.2.2.1.grown hg (by have := HBN.out; omega) (fun r e => by have := (hr r e).1; have := HBN.out; omega), Nat.le_trans hs.2.2.2 hg.size⟩)
     (fun _ _ _ _ _ hs _ _ => hs)
     (by simpa [fill8] using (⟨x0, x1, hb0, by omega⟩ : _ /\ _ /\ _ /\ _))
     (fun x_ a' W => a' = { tmps := #[.pointer (some ⟨b, 0, none⟩), .slice (some ⟨g, o, none⟩) m cap, undef, undef, undef, .pointer (some ⟨bn, 0, none⟩), .pointer (some ⟨bn + 1, 0, none⟩), .int .i64 (x_.1.1 : Int), .slice (some ⟨g, o, none⟩) m cap, .int .i64 (m : Int), .int .i64 (i : Int), .bool true, .pointer (some ⟨g, o + i, none⟩), .int .i64 x, .slice (some ⟨bn + 1, 0, none⟩) 8 8, .func (.func 65) #[] #[.pointer (some ⟨bn + 1 + 1, 0, none⟩)], .int .i64 (x_.1.1 : Int), .int .u8 x_.2, undef, undef, undef, undef, undef, undef, u24, u25, u26, u27, u28, u29, u30, u31, u32, u33], defers := [] })
     (fun x a' _ X Y row hs hg hr => hs)
     ?assign ?body ?done ?stop
    case assign =>
     rintro l pre z W K hI hK
     gi_wp2
     exact hK _ _ ((KeepsOthers.refl _).from _) ⟨rfl, id⟩ hI rfl
    case body =>
     rintro l pre z a' W hl ⟨r, hr⟩ hI rfl hlt8
     obtain ⟨y, hy⟩ : ∃ y, x / 256 ^ pre.length = y := ⟨_, rfl⟩
     have hyi := div_in HXI.out.1 HXI.out.2 pre.length
     rw [hy] at hyi hI
     obtain ⟨k, hk⟩ : ∃ k, z.1.1 = k := ⟨_, rfl⟩
     have hk8 : k < 8 := by rw [<- hk]; exact z.1.2
     have hki : (k : Int) < 8 := by omega
     have hk0 : (0 : Int) <= (k : Int) := Int.natCast_nonneg _
     rw [hk]
     have HK := Lib.hid hk; have HY := Lib.hid hy; have HII := Lib.hid hI
     have c0 := hI.1.cell 0; have f0 := hI.1.frozen 0
     have d0 := hI.2.1.cell k; have e0 := hI.2.1.frozen k
     rw [arr8_at _ hk8] at d0
     simp only [List.getElem?_toArray, List.getElem?_cons_zero] at c0
     obtain ⟨y1, y2⟩ := hyi
     have n1 : ¬ bn = bn + 1 := by omega
     have n2 : ¬ bn + 1 = bn := by omega
     clear hk hy hI x0 x1 x2 hbb hr
     gi_wp2
     have hx1 := HII.out.2.1.set_ k (.int .u8 (y % 256))
     rw [arr8_set _ hk8] at hx1
     have hx1' := Blk.far (p := ⟨bn, 0, none⟩) hx1 (show bn + 1 ≠ bn by omega) (.int .i64 (y / 256))
     have hx0 := (Blk.far (p := ⟨bn + 1, k, none⟩) HII.out.1 (show bn ≠ bn + 1 by omega) (.int .u8 (y % 256))).set_ 0 (.int .i64 (y / 256))
     have ef : (fill8 x ((pre ++ [z]).map fun p : Fin 8 × Int => p.1)).2 = fun j => if j = k then y % 256 else (fill8 x (pre.map fun p : Fin 8 × Int => p.1)).2 j := by
      rw [List.map_append, List.map_cons, List.map_nil, fill8_snoc, fill8_len, List.length_map, HY.out, HK.out]
     refine ⟨((KeepsOthers.setCell _ _ _).trans (KeepsOthers.setCell _ _ _)).from _, ⟨?_, fun _ j hj => ⟨(fun j => if j = k then y % 256 else (fill8 x (pre.map fun p : Fin 8 × Int => p.1)).2 j) j, ?_⟩⟩, ?_, ?_, ?_, ?_⟩
     ·exact (Below.heap_setCell _ ⟨bn, 0, none⟩ (.int .i64 (y / 256)) (bn + 1 + 1) (show bn + 1 + 1 ≠ bn by omega)).trans (Below.heap_setCell _ ⟨bn + 1, k, none⟩ (.int .u8 (y % 256)) (bn + 1 + 1) (show bn + 1 + 1 ≠ bn + 1 by omega))
     ·rw [Nat.zero_add]; exact (hx1'.cell j).trans (arr8_at _ hj)
     ·rw [List.length_append, List.length_cons, List.length_nil, Nat.zero_add, div_succ, HY.out]; simpa using hx0
     ·rw [ef]; exact hx1'
     ·exact (HII.out.2.2.1.setCell (p := ⟨bn + 1, k, none⟩) (by have := HBN.out; show wr.heap.size <= bn + 1; omega) _).setCell (p := ⟨bn, 0, none⟩) (by have := HBN.out; show wr.heap.size <= bn; omega) _
     ·simpa using HII.out.2.2.2
    case done =>
     rintro D zs W hD hzs hI hK
     have HII := Lib.hid hI; have HK := Lib.hid hK; have HZS := Lib.hid hzs
     have hp := HP.out.below hI.2.2.1
     have hm := HM.out.below hI.2.2.1
     have ha : BytesR W (.slice (some ⟨bn + 1, 0, none⟩) 8 8) 8 (be8 x) := by
      have e := fill8_all x
      rw [<- hzs] at e
      refine ⟨⟨rfl, _, 8, rfl, Nat.le_refl _, by unfold maxLen; omega, (fun e => by cases e), fun j u hj => ⟨bn + 1, 0, rfl, fun q v hq => ?_⟩⟩, be8_byte x⟩
      have hj8 : j < 8 := (List.getElem?_eq_some_iff.1 hj).1
      rw [<- e, List.getElem?_map, List.getElem?_range hj8] at hj
      have hq0 : q = 0 := by
       rcases Nat.lt_or_ge q 1 with h | h
       ·omega
       ·rw [List.getElem?_eq_none (by simpa [encB] using h)] at hq; cases hq
      subst hq0
      simp only [Option.map_some, Option.some.injEq] at hj
      subst hj
      simp only [encB, List.getElem?_cons_zero, Option.some.injEq] at hq
      subst hq
      rw [Nat.zero_add, Nat.mul_one, Nat.add_zero]
      exact (hI.2.1.cell j).trans (arr8_at _ hj8)
     have hDn : D ∉ Ds := fun h => by have h2 := (Array.getElem?_eq_some_iff.1 (HM.out.at_ D h).2).1; have := HBN.out; omega
     have hm2 := hm.cons hK (by have := HP.out.fr.size; have := HBN.out; omega) hDn
     have HA := Lib.hid ha; have HPW := Lib.hid hp; have HMK := Lib.hid hm2
     have hbx := hp.x.cell 0
     simp only [List.getElem?_toArray, List.getElem?_cons_zero] at hbx
     clear ha hp hm hm2 hDn hzs hI hK x0 x1 x2 hbb hb0 HP HM
     go_wp2_with fail
     refine region_x 9 (fun W : World => W.cell? ⟨b, 0, none⟩ = some vc) (by kernel_rfl) ?_
     have hd : Below W.heap.size W W.drew := (Below.refl _ _).drew
     replace HPW := Lib.hid (HPW.out.below hd)
     replace HMK := Lib.hid (HMK.out.below hd)
     replace HA := Lib.hid (HA.out.below hd)
     have hS : (fun W : World => W.cell? ⟨b, 0, none⟩ = some vc) W.drew := bel_m hd hbx
     clear hd hbx
     generalize W.drew = V0 at *
     have hML : (L ++ bytesN (l.take i)).length + 8 <= 1000000000 := by
      rw [List.length_append, bytesN_len, List.length_take]
      have := HL.out
      omega
     have hBV : B <= V0.heap.size := Nat.le_trans hB HPW.out.fr.size
     refine tkx (i := 0) (v := ?_) hS ?_ ?_
     rotate_left
     ·rintro w' s0'
      go_simp
      try with_reducible rfl
     try simp only [Act.put, zq1, zq2, zq3, zq4, zq5, zq6]
     refine tkx (i := 1) (v := ?_) hS ?_ ?_
     rotate_left
     ·rintro w' s0'
      go_simp
      try with_reducible rfl
     try simp only [Act.put, zq1, zq2, zq3, zq4, zq5, zq6]
     refine tkx (i := 2) (v := ?_) hS ?_ ?_
     rotate_left
     ·rintro w' s0'
      go_simp
      try with_reducible rfl
     try simp only [Act.put, zq1, zq2, zq3, zq4, zq5, zq6]
     refine tkx (i := 3) (v := ?_) hS ?_ ?_
     rotate_left
     ·rintro w' s0'
      go_simp
      try with_reducible rfl
     try simp only [Act.put, zq1, zq2, zq3, zq4, zq5, zq6]
     refine tkx (i := 4) (v := ?_) hS ?_ ?_
     rotate_left
     ·rintro w' s0'
      go_simp
      try with_reducible rfl
     try simp only [Act.put, zq1, zq2, zq3, zq4, zq5, zq6]
     refine tkx (i := 5) (v := ?_) hS ?_ ?_
     rotate_left
     ·rintro w' s0'
      go_simp
      try with_reducible rfl
     try simp only [Act.put, zq1, zq2, zq3, zq4, zq5, zq6]
     refine anyX_g (i := 6) (by kernel_rfl) (by decide) rfl (by rfl) ?_
     intro K hK
     try simp only [zq1, zq2, zq3]
     refine wp_concatB rfl (.tmp 28) (.tmp 29) rfl B vc (L ++ bytesN (l.take i)).length (L ++ bytesN (l.take i)) rfl HPW.out.o (.slice (some ⟨bn + 1, 0, none⟩) 8 8) 8 (be8 x) rfl HA.out.1 hML hBV ?_
     intro v' w' ho' hg' ha'
     have hne' := HPW.out.o.ne HPW.out.x (by decide)
     have hxb := (hg'.block b HPW.out.x.lt (fun e => hne' e.symm)).trans HPW.out.x
     have hS2 : (fun W : World => W.cell? ⟨b, 0, none⟩ = some vc) w' := by
      have := Blk.cell hxb 0
      simpa using this
     have fz := Blk.frozen hxb 0
     have HP2 := Lib.hid (HPW.out.push hbl (v' := v') (M' := (L ++ bytesN (l.take i)) ++ be8 x) (by unfold BRow; rw [List.length_append, be8_len]; exact ho') hg' ha')
     have HM2 := Lib.hid (HMK.out.push (v' := v') HPW.out.o HPW.out.x hg')
     obtain ⟨A9, c9, rfl, -, -⟩ := HP2.out.o.slice
     obtain ⟨n9, hn9⟩ : ∃ n, ((L ++ bytesN (l.take i)) ++ be8 x).length = n := ⟨_, rfl⟩
     rw [hn9] at HP2 HM2
     rw [hn9]
     refine hK _ _ hS2 ?_
     clear hK hS hn9 ho' hg' ha' hne' hxb HPW HMK HA hML hBV
     replace hS := hS2
     clear hS2
     try simp only [Act.put, zq1, zq2, zq3, zq4, zq5, zq6]
     refine anyX_g (i := 7) (by kernel_rfl) (by decide) rfl (by rfl) ?_
     intro K hK
     try simp only [zq1, zq2, zq3]
     go_simp
     refine hK _ _ hS ?_
     clear hK
     try simp only [Act.put, zq1, zq2, zq3, zq4, zq5, zq6]
     refine tkx (i := 8) (v := ?_) hS ?_ ?_
     rotate_left
     ·rintro w' s0'
      go_simp
      try with_reducible rfl
     try simp only [Act.put, zq1, zq2, zq3, zq4, zq5, zq6]
     refine anyX_last (by kernel_rfl) (by kernel_rfl) rfl rfl ?_
     try simp only [zq1, zq2, zq3]
     go_simp
     try apply_assumption
     go_wp2_with fail
     refine ⟨⟨i + 1, D :: Ds, ⟨by omega, rfl⟩, by omega, ⟨.slice A9 n9 c9, Lib.hid ?_⟩, HM2⟩, by simp [intOf]; omega⟩
     rw [take_succ_bytes hil, HXX.out]
     exact HP2.out
    case stop =>
     rintro D c pre W _ _ h _
     exact h.elim
   ·obtain rfl : i = m := by omega
    go_wp2_with fail
    have hp := HP.out
    rw [List.take_of_length_le (by rw [HLL.out]; exact Nat.le_refl _)] at hp
    exact leaves_marks (J := fun W => PutW w b B vb W vc (L ++ bytesN l)) (fun W D hj h1 hD => hj.turn (grownBy_putObj' W D _) (fun r e => by cases e; exact ⟨h1, _, hD, rfl⟩)) (fun W hj => ⟨results_none rfl _ _ _, ⟨_, rfl⟩, vc, hj⟩) Ds _ HM.out hp
end Go.Proofs.Ytjkcglgkdclidaa
