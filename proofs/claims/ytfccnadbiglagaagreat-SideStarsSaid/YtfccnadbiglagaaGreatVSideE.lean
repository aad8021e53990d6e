/- Rows of doors that a call gathers; slices.Concat of them; doors.plus, doors.costs. Contracts of doors.plus, doors.costs, of the maker's arcs. Contracts of the maker's arcs, of newWeb. Contracts of the pieces' makers: never, one, dearer, star, row. -/
import Derived.Test.YtfccnadbiglagaaGreatVSideC
import Derived.Test.YtfccnadbiglagaaGreatVPair
import Derived.Test.YtfccnadbiglagaaGreatVSetM
import Derived.Test.YtfccnadbiglagaaGreatVShelfG
import Derived.Lib.AppendZerosOnto
set_option linter.unusedVariables false
set_option linter.unusedSimpArgs false
set_option maxRecDepth 100000
set_option maxHeartbeats 8000000
namespace Go.Proofs.YtfccnadbiglagaaGreat
open Go Go.RowKit Go.Proofs
theorem info_door : (Tryz.prog.info? 123).map (fun i => (i.zero, i.size, i.bytes)) = some (some (.agg #[.int .i64 0, .int .i64 0]), 2, 16) := by kernel_rfl
def OwnD (w : World) (B : Nat) (v : Value) (n : Nat) (l : List (Int × Int)) : Prop := w.ownsRow B 123 2 v n (flatP l)
section
variable {w : World} {B n : Nat} {v : Value} {l : List (Int × Int)}
theorem OwnD.nil (w : World) (B : Nat) : OwnD w B (.slice none 0 0) 0 [] := World.ownsRow_nil _ _ _ _
theorem OwnD.empty (w : World) : OwnD (w.alloc (.cells #[] 123)) w.heap.size (.slice (some ⟨w.heap.size, 0, none⟩) 0 0) 0 [] := by
 refine ⟨rfl, .inr ⟨w.heap.size, 0, #[], rfl, Nat.le_refl _, heap_alloc_new w _, ?_⟩⟩
 simp [maxLen, flatP]
theorem OwnD.len (h : OwnD w B v n l) : l.length = n := by
 have := h.1
 rw [flatP_len] at this
 omega
theorem OwnD.alloc (h : OwnD w B v n l) (o : Obj) : OwnD (w.alloc o) B v n l := World.ownsRow.alloc h o
theorem OwnD.drew (h : OwnD w B v n l) : OwnD w.drew B v n l := World.ownsRow.drew h
theorem OwnD.drewN (h : OwnD w B v n l) (k : Nat) : OwnD (w.drewN k) B v n l := h
theorem OwnD.lt (h : OwnD w B v n l) : ∀ k, v.ownBlock = some k -> B <= k /\ k < w.heap.size := World.ownsRow.lt h
theorem OwnD.kept {w' : World} {row : Option Nat} (h : OwnD w B v n l) (hg : w.grownBy w' row) (hne : v.ownBlock = none \/ v.ownBlock ≠ row) : OwnD w' B v n l := World.ownsRow.kept h hg hne
theorem OwnD.more {B' : Nat} (h : OwnD w B v n l) (hB : B' <= B) : OwnD w B' v n l := by
 obtain ⟨h1, h2⟩ := h
 refine ⟨h1, ?_⟩
 rcases h2 with h2 | ⟨g, cap, cur, rfl, hg, r⟩
 ·exact .inl h2
 ·exact .inr ⟨g, cap, cur, rfl, by omega, r⟩
theorem OwnD.below {w' : World} {C : Nat} (h : OwnD w B v n l) (hlt : ∀ k, v.ownBlock = some k -> k < C) (hb : Below C w w') : OwnD w' B v n l := by
 obtain ⟨h1, h2⟩ := h
 refine ⟨h1, ?_⟩
 rcases h2 with h2 | ⟨g, cap, cur, rfl, hg, hh, r⟩
 ·exact .inl h2
 ·exact .inr ⟨g, cap, cur, rfl, hg, by rw [hb.block g (hlt g rfl)]; exact hh, r⟩
theorem OwnD.below_top {w' : World} (h : OwnD w B v n l) (hb : Below w.heap.size w w') : OwnD w' B v n l := h.below (fun k hk => (h.lt k hk).2) hb
theorem OwnD.form (h : OwnD w B v n l) :
  (v = .slice none 0 0 /\ n = 0 /\ l = []) \/ ∃ g cap, v = .slice (some ⟨g, 0, none⟩) n cap /\ B <= g /\ g < w.heap.size /\ n <= cap /\ cap <= maxLen /\
   ∀ i, i < n -> w.cell? ⟨g, 0 + i * 2, none⟩ = some (.int .i64 (l.getD i (0, 0)).1) /\ w.cell? ⟨g, 0 + i * 2 + 1, none⟩ = some (.int .i64 (l.getD i (0, 0)).2) := by
  have hlen := h.len
  have h0 := h
  rcases h.2 with ⟨rfl, rfl⟩ | ⟨g, cap, cur, rfl, hg, hh, hnc, hcm, _⟩
  ·exact .inl ⟨rfl, rfl, List.eq_nil_of_length_eq_zero hlen⟩
  ·refine .inr ⟨g, cap, rfl, hg, (Array.getElem?_eq_some_iff.1 hh).1, hnc, hcm, fun i hi => ?_⟩
   have := flatP_at l i (by omega)
   rw [Nat.zero_add, World.ownsRow.cellAt h0 (i * 2) (by omega), World.ownsRow.cellAt h0 (i * 2 + 1) (by omega)]
   exact this
theorem OwnD.reads (h : OwnD w B v n l) : ReadsP w v n l := by
 refine ⟨h.len, ?_⟩
 rcases h.form with ⟨rfl, rfl, _⟩ | ⟨g, cap, rfl, _, _, h1, h2, hc⟩
 ·exact ⟨none, 0, rfl, Nat.le_refl _, Nat.zero_le _, fun _ => rfl, fun i hi => absurd hi (by omega)⟩
 ·exact ⟨_, cap, rfl, h1, h2, fun e => (by cases e), fun i hi => ⟨g, 0, rfl, hc⟩⟩
end
structure PushedD (B : Nat) (w0 w1 : World) (v : Value) (g cap n : Nat) (l : List (Int × Int)) (x : Int × Int) : Prop where
 own : OwnD w1 B (.slice (some ⟨g, 0, none⟩) (n + 1) cap) (n + 1) (l ++ [x])
 grow : w0.grownBy w1 v.ownBlock
 at_ : v.ownBlock = some g \/ w0.heap.size <= g
 old : ∀ k, v.ownBlock = some k -> B <= k /\ k < w0.heap.size
section
variable {B C n g cap : Nat} {w w0 w1 : World} {v u : Value} {l : List (Int × Int)} {x : Int × Int}
theorem PushedD.below (h : PushedD B w0 w1 v g cap n l x) (hb : Below C w w0) (hC : C <= B) (hC2 : C <= w0.heap.size) : Below C w w1 :=
 hb.grown h.grow hC2 (fun k hk => Nat.le_trans hC (h.old k hk).1)
theorem PushedD.size (h : PushedD B w0 w1 v g cap n l x) : w0.heap.size <= w1.heap.size := h.grow.size
theorem PushedD.cell {b o : Nat} {y : Value} (h : PushedD B w0 w1 v g cap n l x) (hc : w0.cell? ⟨b, o, none⟩ = some y) (hne : some b ≠ v.ownBlock) : w1.cell? ⟨b, o, none⟩ = some y := h.grow.cell hc hne
theorem PushedD.reads {m : Nat} {l' : List (Int × Int)} (h : PushedD B w0 w1 v g cap n l x) {w : World} (hr : ReadsP w u m l') (hb : Below w.heap.size w w0) (hB : w.heap.size <= B) : ReadsP w1 u m l' :=
 hr.below (h.below hb hB hb.size)
end
theorem wpList_pushD {ops : Array Oper} {rest : List Oper} {o : Oper} {a : Act} {Q : Exit -> Act -> World -> Prop} (hgd : o.guard = none) (s x : Operand)
  (ho : o.op = .call { callee := .builtin .append, args := #[s, x], argTypes := #[85, 85] })
  (B : Nat) (w0 : World) (v : Value) (n : Nat) (l : List (Int × Int)) (y z : Int) (hs : a.eval s = v) (hown : OwnD w0 B v n l) (H : Nat) (hx : a.eval x = .slice (some ⟨H, 0, none⟩) 1 1) (hH : w0.heap.size = H)
  (hn : n <= 1000000000) (hB : B <= w0.heap.size)
  (h : ∀ g cap w1, PushedD B w0 w1 v g cap n l (y, z) -> wpList Tryz.prog ops Q rest (a.put o.dst (.slice (some ⟨g, 0, none⟩) (n + 1) cap)) w1) : wpList Tryz.prog ops Q (o :: rest) a (w0.alloc (.cells #[.int .i64 y, .int .i64 z] 123)) := by
  subst hH
  obtain ⟨i0, hi, hz0, hz1, hz2⟩ := info_partsP info_door
  refine wpList_append_lies _ hgd s x _ ho B 123 i0 _ 2 16 Tryz.underlying85 hi hz0 hz1 hz2 rfl (by omega) v n (flatP l) hs (World.ownsRow.alloc hown _) ⟨w0.heap.size, 0, none⟩ 1 1 [.int .i64 y, .int .i64 z] hx rfl (World.news_of_block (cs := #[.int .i64 y, .int .i64 z]) (t := 123) (fr := (0, 0)) (heap_alloc_new w0 _)) (by simp [Value.oneCell']) (by omega) (by unfold maxLen; omega) (by omega) (by simp; omega) (w0.heap.size + 1) (by simp) ?_
  intro g cap w1 h1 h2 h3 h4
  refine h g cap w1 ⟨by unfold OwnD; rw [flatP_append]; exact h1, ?_, ?_, hown.lt⟩
  ·refine ⟨h2.os, h2.tape, h2.output, Nat.le_trans (by simp) h2.size, fun k hk hne => ?_⟩
   rw [h2.block k (by simp; omega) hne]; exact Below.heap_alloc w0 _ k hk
  ·rcases h3 with h3 | h3
   ·exact .inl h3
   ·exact .inr (by omega)
theorem run_concatD (ty : TypeId) {w : World} {B n m : Nat} {v u : Value} {l l' : List (Int × Int)} (hown : OwnD w B v n l) (hu : ReadsP w u m l') (hnm : n + m <= 1000000000) (hB : B <= w.heap.size) :
  ∃ v' w', (Builtin.append_ #[85, 85] ty #[v, u]).run Tryz.prog w = .ok v' w' /\ OwnD w' B v' (n + m) (l ++ l') /\ Below B w w' /\ w.grownBy w' v.ownBlock /\ (v'.ownBlock = v.ownBlock \/ v'.ownBlock = some w.heap.size) := by
  obtain ⟨i0, hi, hz0, hz1, hz2⟩ := info_partsP info_door
  obtain ⟨h1, a, cap, rfl, h2, h3, h4, h5⟩ := hu
  cases m with
  | zero =>
    have hy : l' = [] := List.eq_nil_of_length_eq_zero h1
    subst hy
    cases a with
    | none =>
      have := h4 rfl
      subst this
      exact ⟨v, w, run_append_owned_none w B 85 ty 123 i0 2 Tryz.underlying85 hi v n _ hown, by simpa using hown, Below.refl _ _, ⟨rfl, rfl, rfl, Nat.le_refl _, fun _ _ _ => rfl⟩, .inl rfl⟩
    | some ad =>
      obtain ⟨v', w', hr, q2, q3, _, q5⟩ := run_append_own_at (P := Tryz.prog) w B 85 ty 123 i0 _ 2 16 Tryz.underlying85 hi hz0 hz1 hz2 rfl (by omega) v n _ hown
       ad 0 cap [] rfl (fun j u hj => by simp at hj) (by simp) (by unfold maxLen; omega) (by omega) hB
      exact ⟨v', w', hr, by unfold OwnD; simpa using q2, (Below.refl _ _).grown q3 hB (fun k hk => (hown.lt k hk).1), q3, q5⟩
  | succ m =>
    obtain ⟨b, off, rfl, hc⟩ := h5 0 (by omega)
    have hcells : ∀ j u, (flatP l')[j]? = some u -> w.cell? ((⟨b, off, none⟩ : Addr).add j) = some u := fun j u hj => by
     have e : (⟨b, off, none⟩ : Addr).add j = ⟨b, off + j, none⟩ := by unfold Addr.add; split <;> simp_all
     rw [e]
     have hlt : j < (flatP l').length := by
      rcases Nat.lt_or_ge j (flatP l').length with h | h
      ·exact h
      ·rw [List.getElem?_eq_none h] at hj; cases hj
     rw [flatP_len] at hlt
     have hat := flatP_at l' (j / 2) (by omega)
     have hcj := hc (j / 2) (by omega)
     rcases Nat.mod_two_eq_zero_or_one j with hm | hm
     ·have ej : j / 2 * 2 = j := by omega
      rw [ej] at hat hcj
      rw [hat.1] at hj
      rw [hcj.1]; exact hj
     ·have ej : j / 2 * 2 + 1 = j := by omega
      have ej2 : off + j / 2 * 2 + 1 = off + j := by omega
      rw [ej] at hat; rw [ej2] at hcj
      rw [hat.2] at hj
      rw [hcj.2]; exact hj
    obtain ⟨v', w', hr, q2, q3, _, q5⟩ := run_append_own_at (P := Tryz.prog) w B 85 ty 123 i0 _ 2 16 Tryz.underlying85 hi hz0 hz1 hz2 rfl (by omega) v n _ hown
     ⟨b, off, none⟩ (m + 1) cap (flatP l') (by rw [flatP_len, h1]) hcells (flatP_one l') (by unfold maxLen; omega) (by omega) hB
    exact ⟨v', w', hr, by unfold OwnD; rw [flatP_append]; exact q2, (Below.refl _ _).grown q3 hB (fun k hk => (hown.lt k hk).1), q3, q5⟩
theorem wpList_concatD {w : World} {ops : Array Oper} {rest : List Oper} {o : Oper} {a : Act} {Q : Exit -> Act -> World -> Prop} (hgd : o.guard = none) (s x : Operand)
  (ho : o.op = .call { callee := .builtin .append, args := #[s, x], argTypes := #[85, 85] })
  (B : Nat) (v : Value) (n : Nat) (l : List (Int × Int)) (hs : a.eval s = v) (hown : OwnD w B v n l)
  (u : Value) (m : Nat) (l' : List (Int × Int)) (hx : a.eval x = u) (hu : ReadsP w u m l') (hnm : n + m <= 1000000000) (hB : B <= w.heap.size)
  (h : ∀ v' w', OwnD w' B v' (n + m) (l ++ l') -> Below B w w' -> w.grownBy w' v.ownBlock -> (v'.ownBlock = v.ownBlock \/ v'.ownBlock = some w.heap.size) -> wpList Tryz.prog ops Q rest (a.put o.dst v') w') : wpList Tryz.prog ops Q (o :: rest) a w := by
  obtain ⟨v', w', hr, h2, h3, h4, h5⟩ := run_concatD o.type hown hu hnm hB
  refine wpList_plain hgd fun K hK => ?_
  unfold Oper.wp execOp
  simp only [ho, resolve, invoke, builtin, Sem.run_bind, Sem.run_pure, Result.andThen_ok, List.map_toArray, List.map_cons, List.map_nil, hs, hx, hr]
  exact hK _ _ (h v' w' h2 h3 h4 h5)
def TellsD (w : World) (R : List (Int × Int)) (e : Ending) (w' : World) : Prop := ∃ v, e = .returned v /\ OwnD w' w.heap.size v R.length R /\ Below w.heap.size w w'
theorem dgrow_any (w : World) (n : Nat) (hn : n <= 1000000000) :
  Calls Tryz.prog 128 #[.slice none 0 0, .int .i64 n] w (TellsD w []) := by
  by_cases h0 : n = 0
  ·subst h0
   have hcon := Any8.slices_Grow_room Tryz.growD none 0 0 0 w (Nat.le_refl _) (by omega) (by omega) (by omega)
   change Calls Tryz.prog 128 _ _ _ at hcon
   refine hcon.mono ?_
   rintro e w' ⟨rfl, rfl⟩
   exact ⟨_, rfl, OwnD.nil _ _, Below.refl _ _⟩
  ·obtain ⟨i0, hi, hz0, hz1, hz2⟩ := info_partsP info_door
   have hcon := Any8.slices_Grow_grow Tryz.growD i0 _ hi hz0 (by omega) none 0 0 n [] w (Nat.le_refl _) (by omega) (by rw [hz2]; omega) (by omega) (by simp) (fun _ => rfl) (fun a ha => by cases ha)
   change Calls Tryz.prog 128 _ _ _ at hcon
   refine hcon.mono ?_
   rintro e w' ⟨rfl, rfl⟩
   have hge := grownCap_ge w (0 + n) 0 123
   have hle := grownCap_le_maxLen w (0 + n) 0 123 (by unfold maxLen; omega)
   refine ⟨_, rfl, ?_, ((Below.refl _ _).drew).alloc (Nat.le_refl _) _⟩
   refine World.ownsRow_made (w := w.drew) _ _ (Nat.le_refl _) hle ?_
   change _ = grownCap w (0 + n) 0 123 * 2
   simp only [Array.size_append, size_zeroCells]
   show 0 + (0 + n - 0) * 2 + (grownCap w (0 + n) 0 123 - (0 + n)) * 2 = _
   omega
theorem dconcat_any {w : World} {v : Value} {k0 : Nat} {ls : List (List (Int × Int))} (h : ReadsL w v k0 ls) (hT : ls.flatten.length <= 1000000000) :
  Calls Tryz.prog 107 #[v] w (TellsD w ls.flatten) := by
  have h0 := h
  obtain ⟨hk0, a, cap, rfl, hc, hm, _, _⟩ := h
  unfold maxLen at hm
  have H := Lib.hid h0; have HT := Lib.hid hT; clear h0 hT
  have HK := Lib.hid hk0.symm; clear hk0
  go_enter Tryz.func107, Tryz.ntmps107
  go_wp2_with fail
  go_loopw [3, 11] (fun s i wr => ∃ k m : Nat, k <= k0 /\ i = .int .i64 k /\ s = .int .i64 m /\ m <= 1000000000 /\ Hid (m = (ls.take k).flatten.length) /\ w = wr) (fun _ i _ => k0 - (intOf i).toNat)
  case atStart => exact ⟨0, 0, Nat.zero_le _, rfl, rfl, by omega, Lib.hid rfl, rfl⟩
  case round =>
   obtain ⟨k, m, hk, rfl, rfl, hm9, HM, rfl⟩ := hrel
   by_cases hlt : k < k0
   ·obtain ⟨b, off, u, rfl, c1, hr⟩ := H.out.at k hlt
    have hs := flat_snoc ls k (by rw [<- HK.out]; exact hlt)
    have hs2 := flat_take_le ls (k + 1)
    have hs3 := HT.out
    obtain ⟨a', cap', rfl, q1, q2, q3⟩ := hr.form
    have HS := Lib.hid (show (ls.take (k + 1)).flatten.length = m + (ls.getD k []).length by rw [hs, List.length_append, HM.out])
    rw [HS.out] at hs2
    clear hs hr
    have i0 : (0 : Int) <= (k : Int) := Int.natCast_nonneg _
    have i1 : (k : Int) < (k0 : Int) := by omega
    clear q3
    generalize (ls.getD k []).length = j at *
    have hb : m + j <= 1000000000 := by omega
    clear hs2 hs3
    go_wp2_with fail
    exact ⟨⟨k + 1, m + j, by omega, by go_num, by go_num, hb, Lib.hid HS.out.symm, trivial⟩, by simp [intOf]; omega⟩
   ·obtain rfl : k = k0 := by omega
    have HM2 := Lib.hid (show m = ls.flatten.length by rw [HM.out, List.take_of_length_le (by rw [HK.out]; exact Nat.le_refl _)])
    go_wp2_with (go_at_call 128; refine (dgrow_any _ m hm9).mono ?_)
    rintro e w1 ⟨v1, rfl, ho, hb⟩
    have HO := Lib.hid ho; have HB := Lib.hid hb; have hz := hb.size; clear ho hb
    go_wp2_with fail
    go_loopw [6, 27] (fun s i wr => ∃ j q : Nat, j <= k /\ i = .int .i64 j /\ Hid (q = (ls.take j).flatten.length) /\ Hid (OwnD wr w.heap.size s q (ls.take j).flatten) /\ Hid (Below w.heap.size w wr)) (fun _ i _ => k - (intOf i).toNat)
    case atStart => exact ⟨0, 0, Nat.zero_le _, rfl, Lib.hid rfl, Lib.hid HO.out, HB⟩
    case round =>
     obtain ⟨j, q, hj, rfl, HQ, HV, HW⟩ := hrel
     have hzz := HW.out.size
     by_cases hlt : j < k
     ·obtain ⟨b, off, u, rfl, c1, hr⟩ := H.out.at j hlt
      have c1' := (HW.out.cell (p := ⟨b, off + j, none⟩) (World.block_lt_of_cell? _ _ c1)).trans c1
      have hr' := Lib.hid (hr.below HW.out)
      have hs := flat_snoc ls j (by rw [<- HK.out]; exact hlt)
      have hs2 := flat_take_le ls (j + 1)
      have hs3 := HT.out
      have HS := Lib.hid hs
      have HS1 := Lib.hid (show (ls.take (j + 1)).flatten.length = q + (ls.getD j []).length by rw [hs, List.length_append, HQ.out])
      rw [HS1.out] at hs2
      have i0 : (0 : Int) <= (j : Int) := Int.natCast_nonneg _
      have i1 : (j : Int) < (k : Int) := by omega
      clear hs hr c1
      go_wp2_with (at_builtin; refine wpList_concatD rfl (.tmp 31) (.tmp 32) rfl w.heap.size _ _ _ (by rfl) HV.out _ _ _ (by rfl) hr'.out (by omega) hzz ?_
                   intro v4 w4 hp1 hp2 _ _
                   have HP1 := Lib.hid hp1; have HP2 := Lib.hid hp2; clear hp1 hp2)
      exact ⟨⟨j + 1, _, by omega, by go_num, Lib.hid HS1.out.symm, Lib.hid (by rw [HS.out]; exact HP1.out), Lib.hid (HW.out.trans HP2.out)⟩, by simp [intOf]; omega⟩
     ·obtain rfl : j = k := by omega
      go_wp2_with fail
      go_ret
      have e : ls.take j = ls := List.take_of_length_le (by rw [HK.out]; exact Nat.le_refl _)
      refine ⟨_, rfl, ?_, HW.out⟩
      have h1 := HV.out; have h2 := HQ.out
      rw [e] at h1 h2
      subst h2
      exact h1
theorem DoorsV.reads {w : World} {S : Nat -> Prop} {v : Value} {l : List (Int × Int)} (h : DoorsV w S v l) : ReadsP w v l.length l := by
 have h0 := h
 obtain ⟨-, A, n, c, rfl, hr, -⟩ := h
 have hr0 := hr
 obtain ⟨q1, a, cap, e, q2, q3, q4, -⟩ := hr
 injection e with e1 e2 e3
 subst e1; subst e3
 rw [q1]
 refine ⟨q1, A, c, rfl, q2, q3, q4, fun i hi => ?_⟩
 obtain ⟨g, o, rfl, -, -⟩ := h0.at_ i (by omega)
 refine ⟨g, o, rfl, fun j hj => ?_⟩
 obtain ⟨g', o', e, c0, c1⟩ := h0.at_ j (by omega)
 simp only [Option.some.injEq, Addr.mk.injEq, and_true] at e
 obtain ⟨rfl, rfl⟩ := e
 have e2 : l.getD j (0, 0) = l[j]'(by omega) := by simp [List.getD, List.getElem?_eq_getElem (show j < l.length by omega)]
 rw [e2]
 exact ⟨c0, c1⟩
theorem OwnD.ownE {w : World} {B n : Nat} {v : Value} {l : List (Int × Int)} (h : OwnD w B v n l) : OwnE encD 123 2 w B v n l := h
theorem OwnD.doors {w : World} {B n : Nat} {v : Value} {l : List (Int × Int)} (h : OwnD w B v n l) (hl : l.length <= 1000) {S : Nat -> Prop} (hS : ∀ g, B <= g -> g < w.heap.size -> S g) : DoorsV w S v l := by
 have hr := h.ownE.reads encD_len (by omega)
 obtain ⟨A, c, rfl, -, -, -⟩ := hr.form
 refine ⟨hl, A, n, c, rfl, hr, fun g o e hn => ?_⟩
 subst e
 have := h.lt g rfl
 exact hS g this.1 this.2
end Go.Proofs.YtfccnadbiglagaaGreat
namespace Go.Proofs.YtfccnadbiglagaaGreat
open Go Go.RowKit Go.Proofs
theorem concat2 {w : World} {S : Nat -> Prop} {v u : Value} {l m : List (Int × Int)} (hv : DoorsV w S v l) (hu : DoorsV w S u m) (H : Nat) (h0 : w.cell? ⟨H, 0, none⟩ = some v) (h1 : w.cell? ⟨H, 1, none⟩ = some u) :
  Calls Tryz.prog 107 #[.slice (some ⟨H, 0, none⟩) 2 2] w (TellsD w (l ++ m)) := by
  have hR : ReadsL w (.slice (some ⟨H, 0, none⟩) 2 2) 2 [l, m] := by
   refine ⟨rfl, some ⟨H, 0, none⟩, 2, rfl, Nat.le_refl _, by unfold maxLen; omega, (fun e => by cases e), fun i hi => ?_⟩
   rcases Nat.lt_or_ge i 1 with q | q
   ·obtain rfl : i = 0 := by omega
    exact ⟨H, 0, v, rfl, h0, hv.reads⟩
   ·obtain rfl : i = 1 := by omega
    exact ⟨H, 0, u, rfl, h1, hu.reads⟩
  have h := dconcat_any hR (by have := hv.1; have := hu.1; simp; omega)
  simpa using h
theorem plus_any {w : World} {S : Nat -> Prop} {v : Value} {l : List (Int × Int)} (hv : DoorsV w S v l) (hl : ∀ d ∈ l, CostC d.2) (n : Int) (hn : CostC n) :
  Calls Tryz.prog 108 #[v, .int .i64 n] w (TellsD w (plusD l n)) := by
  have hv0 := hv
  obtain ⟨A, c, rfl, hc, hc2, hl9⟩ := hv.form
  obtain ⟨nl, hnl⟩ : ∃ n, l.length = n := ⟨_, rfl⟩
  rw [hnl] at hv0 hc hl9 ⊢
  have HV := Lib.hid hv0; have HL := Lib.hid hl; have HN := Lib.hid hn; have HNL := Lib.hid hnl
  clear hv hv0 hl hn hnl
  go_enter Tryz.func108, Tryz.ntmps108
  go_wp2_with fail
  go_loopg [5, 11] nl (fun gk vs vi wr => ∃ (i : Nat) (A' : Option Addr) (k c' : Nat), vs = .slice A' k c' /\ vi = .int .i64 i /\ gk = nl - i /\ i <= nl /\ k <= i /\ Hid (OwnD wr w.heap.size (.slice A' k c') k (plusD (l.take i) n)) /\ Hid (Below w.heap.size w wr))
  case atStart => exact ⟨0, none, 0, 0, rfl, rfl, rfl, Nat.zero_le _, Nat.le_refl _, Lib.hid (OwnD.nil _ _), Lib.hid (Below.refl _ _)⟩
  case round =>
   obtain ⟨i, A', k, c', rfl, rfl, hgk, hi, hki, HO, HB⟩ := hrel
   have HGK := Lib.hid hgk; clear hgk
   have i0 : (0 : Int) <= (i : Int) := Int.natCast_nonneg _
   by_cases hlt : i < nl
   ·have i1 : (i : Int) < (nl : Int) := by omega
    have hil : i < l.length := by rw [HNL.out]; exact hlt
    obtain ⟨g, o, hA, e0, e1⟩ := HV.out.at_ i hil
    obtain ⟨x, hx⟩ : ∃ x, (l[i]).1 = x := ⟨_, rfl⟩
    obtain ⟨y, hy⟩ : ∃ x, (l[i]).2 = x := ⟨_, rfl⟩
    have hcy : CostC y := by rw [<- hy]; exact HL.out _ (List.getElem_mem hil)
    rw [hx] at e0
    rw [hy] at e1
    subst hA
    have e0 := bel_q HB.out e0
    have e1 := bel_q HB.out e1
    have HLI := Lib.hid (show l[i] = (x, y) from Prod.ext hx hy)
    have hps := plusD_snoc (l.take i) (x, y) n
    rw [<- HLI.out, <- take_snoc_ l i hil, HLI.out] at hps
    dsimp only at hps
    have HCY := Lib.hid hcy
    clear hx hy hcy
    obtain ⟨z, hz⟩ : ∃ z, plC y n = z := ⟨_, rfl⟩
    rw [hz] at hps
    have hadd := sadd_any y n (wr.alloc (.cells #[.int .i64 x, .int .i64 y] 123)) HCY.out HN.out
    rw [hz] at hadd
    have HADD := Lib.hid hadd
    have hbs := HB.out.size
    clear hz hadd
    by_cases hlt2 : z < 1152921504606846976
    ·rw [if_pos (show z < infC from hlt2)] at hps
     have HPS := Lib.hid hps; clear hps
     go_wp2_with fail
     refine HADD.out.mono ?_
     rintro e w1 ⟨rfl, rfl⟩
     have ho1 := HO.out.alloc (.cells #[.int .i64 x, .int .i64 y] 123)
     have HO1 := Lib.hid ho1; clear ho1
     go_wp2_with (at_builtin; refine wpList_pushD rfl (.tmp 21) (.tmp 26) rfl w.heap.size (wr.alloc (.cells #[.int .i64 x, .int .i64 y] 123)) (.slice A' k c') k (plusD (l.take i) n) x z (by rfl) HO1.out (wr.heap.size + 1) (by rfl) (by simp) (by omega) (by simp; omega) ?_; intro g9 cap9 w9 hp9; have HP := Lib.hid hp9; clear hp9)
     go_roundg (nl - (i + 1))
     case measure => have := HGK.out; omega
     case rel => exact ⟨i + 1, _, k + 1, cap9, rfl, by go_num, rfl, hlt, by omega, Lib.hid (by rw [HPS.out]; exact HP.out.own), Lib.hid (HP.out.below (HB.out.alloc HB.out.size _) (Nat.le_refl _) (by simp; omega))⟩
    ·rw [if_neg (show ¬ z < infC from hlt2), List.append_nil] at hps
     have HPS := Lib.hid hps; clear hps
     go_wp2_with fail
     refine HADD.out.mono ?_
     rintro e w1 ⟨rfl, rfl⟩
     go_wp2_with fail
     go_roundg (nl - (i + 1))
     case measure => have := HGK.out; omega
     case rel => exact ⟨i + 1, _, k, c', rfl, by go_num, rfl, hlt, by omega, Lib.hid (by rw [HPS.out]; exact HO.out.alloc _), Lib.hid (HB.out.alloc HB.out.size _)⟩
   ·obtain rfl : i = nl := by omega
    go_wp2_with fail
    go_ret
    have h2 := HO.out
    rw [List.take_of_length_le (by rw [HNL.out]; exact Nat.le_refl _)] at h2
    refine ⟨_, rfl, ?_, HB.out⟩
    rw [h2.len]
    exact h2
theorem own_of_blk {w : World} {B g : Nat} {l : List Int} (h : Blk w g 3 (l.map (Value.int .i64)).toArray) (hB : B <= g) (hl : l.length <= 1000) : Own w B (.slice (some ⟨g, 0, none⟩) l.length l.length) l.length l := by
 refine ⟨by simp, .inr ⟨g, l.length, (l.map (Value.int .i64)).toArray, rfl, hB, h, ?_⟩⟩
 refine ⟨Nat.le_refl _, by unfold maxLen; omega, by simp, ?_⟩
 simp only [Nat.mul_one]
 rw [List.take_of_length_le (by simp)]
theorem map_repl (N : Nat) (x : Int) : (List.replicate N x).map (Value.int .i64) = List.replicate N (Value.int .i64 x) := by simp
theorem costsD_len (N : Nat) (l : List (Int × Int)) : (costsD N l).length = N := by
 unfold costsD
 have : ∀ (l : List (Int × Int)) (row : List Int), (l.foldl (fun row d => row.set d.1.toNat d.2) row).length = row.length := by
  intro l
  induction l with
  | nil => intro row; rfl
  | cons d l ih => intro row; rw [List.foldl_cons, ih, List.length_set]
 rw [this, List.length_replicate]
theorem costs_any {w : World} {S : Nat -> Prop} {v : Value} {l : List (Int × Int)} (hv : DoorsV w S v l) (N : Nat) (hN : N <= 1000) (hl : Doors N l) :
  Calls Tryz.prog 42 #[v, .int .i64 N] w fun e w' => ∃ g, e = .returned (.slice (some ⟨g, 0, none⟩) N N) /\ w.heap.size <= g /\ Blk w' g 3 ((costsD N l).map (Value.int .i64)).toArray /\ Below w.heap.size w w' := by
  have hv0 := hv
  obtain ⟨A, c, rfl, hc, hc2, hl9⟩ := hv.form
  obtain ⟨nl, hnl⟩ : ∃ n, l.length = n := ⟨_, rfl⟩
  rw [hnl] at hv0 hc hl9 ⊢
  have HV := Lib.hid hv0; have HL := Lib.hid hl; have HNL := Lib.hid hnl; have HF := Lib.hid (forb_any N hN w)
  clear hv hv0 hl hnl
  go_enter Tryz.func42, Tryz.ntmps42
  go_wp2_with fail
  refine HF.out.mono ?_
  rintro e W1 ⟨rfl, hg1, hb1⟩
  obtain ⟨g, hg⟩ : ∃ g, w.heap.size + 1 = g := ⟨_, rfl⟩
  rw [hg] at hg1 ⊢
  have hgw : w.heap.size <= g := by omega
  rw [<- map_repl] at hg1
  have HG1 := Lib.hid (show Blk W1 g 3 ((costsD N (l.take 0)).map (Value.int .i64)).toArray from hg1); have HB1 := Lib.hid hb1
  clear hg1 hb1 hg HF
  go_wp2_with fail
  go_loopg [12] nl (fun gk vi wr => ∃ i : Nat, vi = .int .i64 i /\ gk = nl - i /\ i <= nl /\ Hid (Blk wr g 3 ((costsD N (l.take i)).map (Value.int .i64)).toArray) /\ Hid (Below w.heap.size w wr))
  case atStart => exact ⟨0, rfl, rfl, Nat.zero_le _, HG1, HB1⟩
  case round =>
   clear HG1 HB1
   obtain ⟨i, rfl, hgk, hi, HG, HB⟩ := hrel
   have HGK := Lib.hid hgk; clear hgk
   have i0 : (0 : Int) <= (i : Int) := Int.natCast_nonneg _
   by_cases hlt : i < nl
   ·have i1 : (i : Int) < (nl : Int) := by omega
    have hil : i < l.length := by rw [HNL.out]; exact hlt
    obtain ⟨ge, o, hA, e0, e1⟩ := HV.out.at_ i hil
    obtain ⟨⟨q, hq, hqN⟩, -⟩ := HL.out (l[i]) (List.getElem_mem hil)
    obtain ⟨y, hy⟩ : ∃ x, (l[i]).2 = x := ⟨_, rfl⟩
    rw [hq] at e0
    rw [hy] at e1
    subst hA
    have e0 := bel_q HB.out e0
    have e1 := bel_q HB.out e1
    have HLI := Lib.hid (show l[i] = ((q : Int), y) from Prod.ext hq hy)
    have hbs := HB.out.size
    have hgl := HG.out.lt
    have hx1 := Blk.alloc HG.out (.cells #[.int .i64 q, .int .i64 y] 123)
    have fr : (wr.alloc (.cells #[.int .i64 q, .int .i64 y] 123)).frozen? ⟨g, q, none⟩ = false := Blk.frozen hx1 q
    have hcl : ((costsD N (l.take i)).map (Value.int .i64)).length = N := by rw [List.length_map, costsD_len]
    obtain ⟨u, hu⟩ : ∃ u, (wr.alloc (.cells #[.int .i64 q, .int .i64 y] 123)).cell? ⟨g, q, none⟩ = some u := by
     rw [Blk.cell hx1 q, List.getElem?_toArray]
     exact ⟨_, List.getElem?_eq_getElem (by rw [hcl]; exact hqN)⟩
    have q0 : (0 : Int) <= (q : Int) := Int.natCast_nonneg _
    have q1 : (q : Int) < (N : Int) := by omega
    have HX1 := Lib.hid hx1
    clear hq hy hx1 hcl
    go_wp2_with fail
    go_roundg (nl - (i + 1))
    case measure => have := HGK.out; omega
    case rel =>
     refine ⟨i + 1, by go_num, rfl, hlt, Lib.hid ?_, Lib.hid ((HB.out.setCell (p := ⟨g, q, none⟩) hgw _).alloc (by simpa using HB.out.size) _)⟩
     rw [take_snoc_ l i hil, HLI.out, costsD_snoc]
     have h3 := Blk.set_ HG.out q (.int .i64 y)
     rw [List.setIfInBounds_toArray, <- List.map_set] at h3
     exact Blk.alloc h3 _
   ·obtain rfl : i = nl := by omega
    go_wp2_with fail
    go_ret
    have h2 := HG.out
    rw [List.take_of_length_le (by rw [HNL.out]; exact Nat.le_refl _)] at h2
    exact ⟨g, rfl, hgw, h2, HB.out⟩
end Go.Proofs.YtfccnadbiglagaaGreat
namespace Go.Proofs.YtfccnadbiglagaaGreat
open Go Go.RowKit Go.Proofs
theorem info_arc : (Tryz.prog.info? 58).map (fun i => (i.zero, i.size, i.bytes)) = some (some (.agg #[.int .i64 0, .int .i64 0, .int .i64 0]), 3, 24) := by kernel_rfl
def TellsA (w : World) (R : List ArcP) (e : Ending) (w' : World) : Prop := ∃ v, e = .returned v /\ OwnE encA 58 3 w' w.heap.size v R.length R /\ Below w.heap.size w w'
theorem arcs_any {w : World} {B T b N : Nat} {sv : Value} {S : List Int} {cv : Value} {g0 o0 cc : Nat} {R : Nat -> Nat} {dv rv : Value} {M : Mat} (h : MkAt w B T b N sv S cv g0 o0 cc R dv rv M) :
  Calls Tryz.prog 43 #[.pointer (some ⟨b, 0, none⟩)] w (TellsA w (arcsOf N M)) := by
  have hsm := h.small
  obtain ⟨cA, c9, hcv, hc1, hc2⟩ : ∃ cA c9, cv = .slice cA N c9 /\ N <= c9 /\ c9 <= maxLen := by
   rcases h.costs.form with ⟨rfl, A, c, e, e2⟩ | ⟨_, e, e1, e2⟩
   ·exact ⟨A, c, e, Nat.zero_le _, e2⟩
   ·exact ⟨_, _, e, e1, e2⟩
  have hcA : 0 < N -> cA = some ⟨g0, o0, none⟩ := fun hN => by
   rcases h.costs.form with ⟨e, _⟩ | ⟨_, e, _, _⟩
   ·omega
   ·rw [hcv] at e
    simp only [Value.slice.injEq, true_and] at e
    exact e.1
  have k0 := Blk.cell h.box 1
  simp only [List.getElem?_toArray, List.getElem?_cons_zero, List.getElem?_cons_succ] at k0
  rw [hcv] at k0
  unfold maxLen at hc2
  have HM := Lib.hid h; have HCA := Lib.hid hcA
  clear h hcv hcA
  go_enter Tryz.func43, Tryz.ntmps43
  go_wp2_with fail
  go_loopg [3, 13] N (fun gk vs vi wr => ∃ (i : Nat) (A' : Option Addr) (k c' : Nat), vs = .slice A' k c' /\ vi = .int .i64 i /\ gk = N - i /\ i <= N /\ k <= i * 120 /\ Hid (OwnE encA 58 3 wr w.heap.size (.slice A' k c') k (arcsTo N M i 0)) /\ Hid (Below w.heap.size w wr))
  case atStart => exact ⟨0, none, 0, 0, rfl, rfl, rfl, Nat.zero_le _, Nat.zero_le _, Lib.hid (OwnE.nil _ _), Lib.hid (Below.refl _ _)⟩
  case round =>
   obtain ⟨i, A', k, c', rfl, rfl, hgk, hi, hki, HO, HB⟩ := hrel
   have HGK := Lib.hid hgk; clear hgk
   have i0 : (0 : Int) <= (i : Int) := Int.natCast_nonneg _
   by_cases hlt : i < N
   ·have i1 : (i : Int) < (N : Int) := by omega
    obtain rfl := HCA.out (by omega)
    have r0 := bel_q HB.out (HM.out.costs.cells i hlt)
    go_wp2_with fail
    go_loopg [3, 20] N (fun gk2 vs2 vj wr2 => ∃ (j : Nat) (A2 : Option Addr) (k2 c2 : Nat), vs2 = .slice A2 k2 c2 /\ vj = .int .i64 j /\ gk2 = N - j /\ j <= N /\ k2 <= i * 120 + j /\ Hid (OwnE encA 58 3 wr2 w.heap.size (.slice A2 k2 c2) k2 (arcsTo N M i j)) /\ Hid (Below w.heap.size w wr2))
    case atStart => exact ⟨0, A', k, c', rfl, rfl, rfl, Nat.zero_le _, by omega, HO, HB⟩
    case round =>
     clear HO HB r0
     obtain ⟨j, A2, k2, c2, rfl, rfl, hgk2, hj, hkj, HO, HB⟩ := hrel
     have HGK2 := Lib.hid hgk2; clear hgk2
     have j0 : (0 : Int) <= (j : Int) := Int.natCast_nonneg _
     by_cases hlt2 : j < N
     ·have j1 : (j : Int) < (N : Int) := by omega
      have hrow := HM.out.costs.at_ i hlt
      have r1 := Blk.cell hrow j
      rw [List.getElem?_toArray, rowM_at N M i j hlt2] at r1
      have r1 := bel_q HB.out r1
      have hst := arcsTo_step N M i j
      obtain ⟨m, hm⟩ : ∃ m, M i j = m := ⟨_, rfl⟩
      rw [hm] at r1 hst
      have hbs := HB.out.size
      clear hrow hm
      by_cases hlt3 : m < 1152921504606846976
      ·rw [if_pos (show m < infC from hlt3)] at hst
       have HST := Lib.hid hst; clear hst
       go_wp2_with (at_builtin; refine wpList_pushE rfl (.tmp 27) (.tmp 32) 37 rfl 24 _ Tryz.underlying37 info_arc rfl (by omega) (by omega) w.heap.size wr (.slice A2 k2 c2) k2 (arcsTo N M i j) ((i : Int), (j : Int), m) _ rfl rfl (by simp [encA, Value.oneCell']) (by rfl) HO.out wr.heap.size (by rfl) rfl (by omega) hbs ?_; intro g9 cap9 w9 hp9; have HP := Lib.hid hp9; clear hp9)
       go_roundg (N - (j + 1))
       case measure => have := HGK2.out; omega
       case rel => exact ⟨j + 1, _, k2 + 1, cap9, rfl, by go_num, rfl, hlt2, by omega, Lib.hid (by rw [HST.out]; exact HP.out.own), Lib.hid (HP.out.below HB.out (Nat.le_refl _) hbs)⟩
      ·rw [if_neg (show ¬ m < infC from hlt3), List.append_nil] at hst
       have HST := Lib.hid hst; clear hst
       go_wp2_with fail
       go_roundg (N - (j + 1))
       case measure => have := HGK2.out; omega
       case rel => exact ⟨j + 1, A2, k2, c2, rfl, by go_num, rfl, hlt2, by omega, Lib.hid (by rw [HST.out]; exact HO.out), HB⟩
     ·obtain rfl : j = N := by omega
      go_wp2_with fail
      go_roundg (j - (i + 1))
      case measure => have := HGK.out; omega
      case rel => exact ⟨i + 1, A2, k2, c2, rfl, by go_num, rfl, hlt, by omega, Lib.hid (by rw [<- arcsTo_row]; exact HO.out), HB⟩
   ·obtain rfl : i = N := by omega
    go_wp2_with fail
    go_ret
    have h2 := HO.out
    rw [arcsTo_all] at h2
    refine ⟨_, rfl, ?_, HB.out⟩
    rw [h2.len encA_len (by omega)]
    exact h2
theorem info_intsl : (Tryz.prog.info? 23).map (fun i => (i.zero, i.size, i.bytes)) = some (some (.slice none 0 0), 1, 24) := by kernel_rfl
theorem flat_one {l : List Value} : (l.flatMap fun x => [x]) = l := by simp
structure Rows0 (w : World) (N : Nat) (W : World) (i : Nat) (A : Option Addr) (c : Nat) (R : Nat -> Nat) : Prop where
 below : Below w.heap.size w W
 own : W.ownsRow (w.heap.size + 2) 23 1 (.slice A i c) i ((List.range i).map fun k => Value.slice (some ⟨R k, 0, none⟩) N N)
 rows : ∀ k, k < i -> w.heap.size + 2 <= R k /\ R k < W.heap.size /\ Blk W (R k) 3 (List.replicate N (Value.int .i64 1152921504606846976)).toArray /\ (Value.slice A i c).ownBlock ≠ some (R k)
 apart : ∀ k l, k < i -> l < i -> R k = R l -> k = l
theorem Rows0.set {w W : World} {N i c : Nat} {A : Option Addr} {R : Nat -> Nat} (h : Rows0 w N W i A c R) (j : Nat) (u : Value) : Rows0 w N (W.setCell ⟨w.heap.size, j, none⟩ u) i A c R where
 below := h.below.setCell (p := ⟨w.heap.size, j, none⟩) (Nat.le_refl _) u
 own := ownsRow_setCell_below h.own (a := ⟨w.heap.size, j, none⟩) (by show w.heap.size < w.heap.size + 2; omega) u
 rows := fun k hk => by
  obtain ⟨h1, h2, h3, h4⟩ := h.rows k hk
  exact ⟨h1, by simpa using h2, Blk.far h3 (p := ⟨w.heap.size, j, none⟩) (by show R k ≠ w.heap.size; omega) u, h4⟩
 apart := h.apart
theorem Rows0.push {w wr W1 V w9 : World} {N i c g cap H bx : Nat} {A : Option Addr} {R : Nat -> Nat} (h : Rows0 w N wr i A c R) (hbx : w.heap.size + 1 = bx) (hz : w.heap.size + 2 <= wr.heap.size)
  (H1 : w9.ownsRow (w.heap.size + 2) 23 1 (.slice (some ⟨g, 0, none⟩) (i + 1) cap) (i + 1) (((List.range i).map fun k => Value.slice (some ⟨R k, 0, none⟩) N N) ++ (#[Value.slice (some ⟨H, 0, none⟩) N N] : Array Value).toList))
  (H2 : V.grownBy w9 (Value.slice A i c).ownBlock) (H3 : (Value.slice A i c).ownBlock = some g \/ g = V.heap.size) (H5 : Below wr.heap.size wr V) (H6 : Blk W1 H 3 (List.replicate N (Value.int .i64 1152921504606846976)).toArray) (H8 : Below W1.heap.size W1 V) (hH : wr.heap.size + 1 = H) (u : Value) :
  Rows0 w N (w9.setCell ⟨bx, 1, none⟩ u) (i + 1) (some ⟨g, 0, none⟩) cap (fun k => if k = i then H else R k) := by
  have hlt : ∀ k, (Value.slice A i c).ownBlock = some k -> w.heap.size + 2 <= k /\ k < wr.heap.size := World.ownsRow.lt h.own
  have hHV : H < V.heap.size := (Blk.below H6 H8 H6.lt).lt
  have hV5 := H5.size
  have h9 := H2.size
  have hrow : ∀ k, k < i -> Blk w9 (R k) 3 (List.replicate N (Value.int .i64 1152921504606846976)).toArray := fun k hk => by
   obtain ⟨h1, h2, h3, h4⟩ := h.rows k hk
   exact Blk.grown (Blk.below h3 H5 h2) H2 (fun e => h4 e.symm)
  have hrowH : Blk w9 H 3 (List.replicate N (Value.int .i64 1152921504606846976)).toArray := Blk.grown (Blk.below H6 H8 H6.lt) H2 (fun e => by have := (hlt H e.symm).2; omega)
  refine ⟨((h.below.trans (H5.mono h.below.size)).grown H2 (by omega) (fun k hk => by have := (hlt k hk).1; omega)).setCell (p := ⟨bx, 1, none⟩) (by show w.heap.size <= bx; omega) u, ?_, fun k hk => ?_, fun k l hk hl e => ?_⟩
  ·have e : ((List.range (i + 1)).map fun k => Value.slice (some ⟨if k = i then H else R k, 0, none⟩) N N) = ((List.range i).map fun k => Value.slice (some ⟨R k, 0, none⟩) N N) ++ [Value.slice (some ⟨H, 0, none⟩) N N] := by
    rw [List.range_succ, List.map_append]
    congr 1
    ·refine List.map_congr_left fun k hk => ?_
     rw [if_neg (by have := List.mem_range.1 hk; omega)]
    ·simp
   rw [e]
   exact ownsRow_setCell_below H1 (a := ⟨bx, 1, none⟩) (by show bx < w.heap.size + 2; omega) u
  ·by_cases e : k = i
   ·subst e
    rw [if_pos rfl]
    refine ⟨by omega, by simp; have := hrowH.lt; omega, Blk.far hrowH (p := ⟨bx, 1, none⟩) (by show H ≠ bx; omega) u, fun q => ?_⟩
    have q' : g = H := by simpa [Value.ownBlock] using q
    rcases H3 with z | z
    ·have := (hlt g z).2; omega
    ·omega
   ·rw [if_neg e]
    obtain ⟨h1, h2, h3, h4⟩ := h.rows k (by omega)
    refine ⟨h1, by simp; omega, Blk.far (hrow k (by omega)) (p := ⟨bx, 1, none⟩) (by show R k ≠ bx; omega) u, fun q => ?_⟩
    have q' : g = R k := by simpa [Value.ownBlock] using q
    rcases H3 with z | z
    ·exact h4 (by rw [z, q'])
    ·omega
  ·by_cases e1 : k = i <;> by_cases e2 : l = i
   ·omega
   ·rw [if_pos e1, if_neg e2] at e
    have := (h.rows l (by omega)).2.1; omega
   ·rw [if_neg e1, if_pos e2] at e
    have := (h.rows k (by omega)).2.1; omega
   ·rw [if_neg e1, if_neg e2] at e
    exact h.apart k l (by omega) (by omega) e
theorem newWeb_any (N : Nat) (hN : N <= 1000) (w : World) :
  Calls Tryz.prog 40 #[.int .i64 N] w fun e w' => ∃ (A : Option Addr) (c : Nat) (R : Nat -> Nat), e = .returned (.agg #[.slice none 0 0, .slice A N c]) /\ Below w.heap.size w w' /\ Rows0 w N w' N A c R := by
  go_enter Tryz.func40, Tryz.ntmps40
  go_wp2_with fail
  obtain ⟨W0, hW0⟩ : ∃ W0, (w.alloc (.cells #[.slice none 0 0, .slice none 0 0] 80)).alloc (.cells #[.slice none 0 0, .slice none 0 0] 80) = W0 := ⟨_, rfl⟩
  have hb0 : Below w.heap.size w W0 := by rw [<- hW0]; exact ((Below.refl _ _).alloc (Nat.le_refl _) _).alloc (by simp) _
  have hr0 : Blk W0 w.heap.size 80 #[.slice none 0 0, .slice none 0 0] := by rw [<- hW0]; exact Blk.alloc (Blk.new _ _ _) _
  have hx0 : Blk W0 (w.heap.size + 1) 80 #[.slice none 0 0, .slice none 0 0] := by
   rw [<- hW0]
   have := Blk.new (w.alloc (.cells #[.slice none 0 0, .slice none 0 0] 80)) 80 #[.slice none 0 0, .slice none 0 0]
   rwa [World.size_alloc] at this
  have hz0 : w.heap.size + 2 <= W0.heap.size := by rw [<- hW0]; simp
  rw [hW0]
  obtain ⟨bx, hbx⟩ : ∃ b, w.heap.size + 1 = b := ⟨_, rfl⟩
  rw [hbx] at hx0 ⊢
  have HBXE := Lib.hid hbx
  have HB0 := Lib.hid hb0; have HR0 := Lib.hid hr0; have HX0 := Lib.hid hx0; have HZ0 := Lib.hid hz0
  clear hW0 hb0 hr0 hx0 hz0 hbx
  go_loopg [5] N (fun gk vi wr => ∃ (i : Nat) (A : Option Addr) (c : Nat) (R : Nat -> Nat), vi = .int .i64 i /\ gk = N - i /\ i <= N /\ Hid (Blk wr bx 80 #[.slice none 0 0, .slice A i c]) /\ Hid (Blk wr w.heap.size 80 #[.slice none 0 0, .slice none 0 0]) /\ Hid (Rows0 w N wr i A c R) /\ Hid (w.heap.size + 2 <= wr.heap.size))
  case atStart => exact ⟨0, none, 0, fun _ => 0, rfl, rfl, Nat.zero_le _, HX0, HR0, Lib.hid ⟨HB0.out, World.ownsRow_nil _ _ _ _, fun k hk => absurd hk (Nat.not_lt_zero k), fun k l hk => absurd hk (Nat.not_lt_zero k)⟩, HZ0⟩
  case round =>
   clear HB0 HR0 HX0 HZ0
   obtain ⟨i, A, c, R, rfl, hgk, hi, HBX, HRS, HRW, HZ⟩ := hrel
   have HGK := Lib.hid hgk; clear hgk
   have i0 : (0 : Int) <= (i : Int) := Int.natCast_nonneg _
   by_cases hlt : i < N
   ·have i1 : (i : Int) < (N : Int) := by omega
    have hks : ∀ W : World, Below wr.heap.size wr W -> (fun w' : World => w'.cell? ⟨bx, 1, none⟩ = some (.slice A i c)) W := fun W hW => bel_q hW (Blk.cell HBX.out 1)
    have HKS := Lib.hid hks
    have hne : some bx ≠ (Value.slice A i c).ownBlock := fun e => by have := (World.ownsRow.lt HRW.out.own bx e.symm).1; have := HBXE.out; omega
    have HNE := Lib.hid hne
    have HO := Lib.hid HRW.out.own
    clear hks hne
    go_wp2_with fail
    have hS := HKS.out _ (Below.refl _ _).drew
    refine region_x 7 (fun w' : World => w'.cell? ⟨bx, 1, none⟩ = some (.slice A i c)) (by kernel_rfl) ?_
    refine tkx (i := 0) (v := ?_) hS ?_ ?_
    rotate_left
    ·rintro w' c0
     go_simp
     try with_reducible rfl
    try simp only [Act.put, zq1, zq2, zq3, zq4, zq5, zq6]
    refine tkx (i := 1) (v := ?_) hS ?_ ?_
    rotate_left
    ·rintro w' c0
     go_simp
     try with_reducible rfl
    try simp only [Act.put, zq1, zq2, zq3, zq4, zq5, zq6]
    refine tkx (i := 2) (v := ?_) hS ?_ ?_
    rotate_left
    ·rintro w' c0
     go_simp
     try with_reducible rfl
    try simp only [Act.put, zq1, zq2, zq3, zq4, zq5, zq6]
    refine anyX_g (i := 3) (by kernel_rfl) (by decide) rfl (by rfl) ?_
    intro K hK
    try simp only [zq1, zq2, zq3]
    refine wp_enterE #[.int .i64 N] Tryz.func65 (by kernel_rfl) (by kernel_rfl) ?_ (forb_any N hN wr.drew) ?_
    ·go_simp
    rintro e W1 ⟨rfl, hg1, hb1⟩
    refine ⟨_, rfl, ?_⟩
    have hb1' : Below wr.heap.size wr W1 := ((Below.refl _ _).drew).trans hb1
    have hS1 := HKS.out _ hb1'
    obtain ⟨H, hH⟩ : ∃ H, wr.drew.heap.size + 1 = H := ⟨_, rfl⟩
    rw [hH] at hg1 ⊢
    have hHw : wr.heap.size + 1 = H := hH
    clear hH hb1
    refine hK _ _ hS1 ?_
    clear hK
    try simp only [Act.put, zq1, zq2, zq3, zq4, zq5, zq6]
    refine anyX_g (i := 4) (by kernel_rfl) (by decide) rfl (by rfl) ?_
    intro K hK
    try simp only [zq1, zq2, zq3]
    go_simp
    obtain ⟨V, hV⟩ : ∃ V, W1.alloc (.cells #[.slice (some ⟨H, 0, none⟩) N N] 23) = V := ⟨_, rfl⟩
    have hbV : Below W1.heap.size W1 V := by rw [<- hV]; exact (Below.refl _ _).alloc (Nat.le_refl _) _
    have hxV : Blk V W1.heap.size 23 #[.slice (some ⟨H, 0, none⟩) N N] := by rw [<- hV]; exact Blk.new _ _ _
    try rw [hV]
    have hbV' := hb1'.trans (hbV.mono hb1'.size)
    have hS2 := HKS.out _ hbV'
    clear hV
    refine hK _ _ hS2 ?_
    clear hK
    try simp only [Act.put, zq1, zq2, zq3, zq4, zq5, zq6]
    have hownV := (OwnE.below_top (enc := fun x : Value => [x]) (l := (List.range i).map fun k => Value.slice (some ⟨R k, 0, none⟩) N N) (by unfold OwnE; rw [flat_one]; exact HO.out) hbV')
    unfold OwnE at hownV
    rw [flat_one] at hownV
    refine anyX_g (i := 5) (by kernel_rfl) (by decide) rfl (by rfl) ?_
    intro K hK
    try simp only [zq1, zq2, zq3]
    refine wp_pushK rfl (.tmp 8) (.tmp 11) 78 23 rfl 1 24 _ Tryz.underlying78 info_intsl rfl (by omega) (by omega) (w.heap.size + 2) (.slice A i c) i _ (by rfl) hownV W1.heap.size (by rfl) _ rfl hxV (by simp [Value.oneCell']) (by omega) (by have := hbV'.size; have := HZ.out; omega) ?_
    intro g cap w9 hown9 hgr9 hat9
    have hbx9 : Blk w9 bx 80 #[.slice none 0 0, .slice A i c] := Blk.grown (Blk.below HBX.out hbV' HBX.out.lt) hgr9 HNE.out
    have hS9 : w9.cell? ⟨bx, 1, none⟩ = some (.slice A i c) := Blk.cell hbx9 1
    refine hK _ _ hS9 ?_
    clear hK hS hS1 hS2
    try simp only [Act.put, zq1, zq2, zq3, zq4, zq5, zq6]
    refine tkx (i := 6) (v := ?_) hS9 ?_ ?_
    rotate_left
    ·rintro w' c0
     go_simp
     try with_reducible rfl
    try simp only [Act.put, zq1, zq2, zq3, zq4, zq5, zq6]
    have fr : w9.frozen? ⟨bx, 1, none⟩ = false := Blk.frozen hbx9 1
    have H1 := Lib.hid hown9; have H2 := Lib.hid hgr9; have H3 := Lib.hid hat9; have H4 := Lib.hid hbx9; have H5 := Lib.hid hbV'; have H6 := Lib.hid hg1; have H7 := Lib.hid hb1'; have H8 := Lib.hid hbV
    clear hown9 hgr9 hat9 hbx9 hbV' hg1 hb1' hbV hxV hownV
    refine anyX_last (by kernel_rfl) (by kernel_rfl) rfl rfl ?_
    try simp only [zq1, zq2, zq3]
    go_simp
    try apply_assumption
    go_wp2_with fail
    go_roundg (N - (i + 1))
    case measure => have := HGK.out; omega
    case rel =>
     refine ⟨i + 1, some ⟨g, 0, none⟩, cap, fun k => if k = i then H else R k, by go_num, rfl, by omega, Lib.hid ?_, Lib.hid ?_, Lib.hid (Rows0.push HRW.out HBXE.out HZ.out H1.out H2.out H3.out H5.out H6.out H8.out hHw _), Lib.hid ?_⟩
     ·have := Blk.set_ H4.out 1 (.slice (some ⟨g, 0, none⟩) (i + 1) cap)
      simpa using this
     ·refine Blk.far (Blk.grown (Blk.below HRS.out H5.out HRS.out.lt) H2.out (fun e => ?_)) (p := ⟨bx, 1, none⟩) (by show w.heap.size ≠ bx; have := HBXE.out; omega) _
      have := (World.ownsRow.lt HRW.out.own _ e.symm).1; omega
     ·have := H2.out.size; have := H5.out.size; have := HZ.out; simp; omega
   ·obtain rfl : i = N := by omega
    have c1 := Blk.cell HBX.out 1; have c0 := Blk.cell HBX.out 0
    have r0 := Blk.cell HRS.out 0; have r1 := Blk.cell HRS.out 1
    have fr := Blk.frozen HRS.out 0; have fr1 := Blk.frozen HRS.out 1
    simp only [List.getElem?_toArray, List.getElem?_cons_zero, List.getElem?_cons_succ] at c0 c1 r0 r1
    go_wp2_with fail
    have hf := (HRW.out.set 0 (.slice none 0 0)).set 1 (.slice A i c)
    exact bodyPost_ret (v := .agg #[.slice none 0 0, .slice A i c]) (by simp [results, Tryz.results40, go_sem, r0, r1]) rfl ⟨A, c, R, rfl, hf.below, hf⟩
end Go.Proofs.YtfccnadbiglagaaGreat
namespace Go.Proofs.YtfccnadbiglagaaGreat
open Go Go.RowKit Go.Proofs
theorem never_any (w : World) : Calls Tryz.prog 73 #[] w fun e w' => e = .returned (.agg #[.slice none 0 0, .slice none 0 0, .int .i64 1152921504606846976]) /\ Below w.heap.size w w' := by
 go_enter Tryz.func73, Tryz.ntmps73
 go_wp2_with fail
 refine bodyPost_ret (v := .agg #[.slice none 0 0, .slice none 0 0, .int .i64 1152921504606846976]) (by simp [results, Tryz.results73, go_sem]) rfl ⟨rfl, ?_⟩
 exact (Below.refl _ _).alloc (Nat.le_refl _) _
theorem BB {w : World} {B T b : Nat} (h : B <= b /\ b < T) (hT : T <= w.heap.size) : B <= w.heap.size := Nat.le_trans (Nat.le_of_lt (Nat.lt_of_le_of_lt h.1 h.2)) hT
theorem doors_one {w : World} {S : Nat -> Prop} {H : Nat} {x y : Int} (h : Blk w H 123 #[.int .i64 x, .int .i64 y]) (hS : S H) : DoorsV w S (.slice (some ⟨H, 0, none⟩) 1 1) [(x, y)] := by
 refine ⟨by simp, some ⟨H, 0, none⟩, 1, 1, rfl, ⟨rfl, some ⟨H, 0, none⟩, 1, rfl, Nat.le_refl _, by unfold maxLen; omega, (fun e => by cases e), fun i z hi => ?_⟩, fun g o e _ => ?_⟩
 ·have h0 : i = 0 := by
   have := (List.getElem?_eq_some_iff.1 hi).1
   simp at this; omega
  subst h0
  simp only [List.getElem?_cons_zero, Option.some.injEq] at hi
  subst hi
  refine ⟨H, 0, rfl, fun j u hj => ?_⟩
  rw [Nat.zero_mul, Nat.add_zero, Nat.zero_add, Blk.cell h j]
  simpa [encD] using hj
 ·simp only [Option.some.injEq, Addr.mk.injEq, and_true] at e
  rw [<- e.1]; exact hS
theorem MkAt.far {w : World} {B T b N : Nat} {sv : Value} {S : List Int} {cv : Value} {g0 o0 cc : Nat} {R : Nat -> Nat} {dv rv : Value} {M : Mat} (h : MkAt w B T b N sv S cv g0 o0 cc R dv rv M) {G j : Nat} (hG : T <= G) (ho : sv.ownBlock ≠ some G) (u : Value) : MkAt (w.setCell ⟨G, j, none⟩ u) B T b N sv S cv g0 o0 cc R dv rv M where
 box := Blk.far h.box (p := ⟨G, j, none⟩) (by show b ≠ G; have := h.bB.2; omega) u
 bB := h.bB
 bg := h.bg
 bR := h.bR
 top := by simpa using h.top
 sets := ownsRow_setCell_other h.sets (a := ⟨G, j, none⟩) ho u
 small := h.small
 fits := h.fits
 costs := h.costs.keep (fun hN i x hx => by rw [cell_of_heap (Below.heap_setCell w ⟨G, j, none⟩ u g0 (by show g0 ≠ G; have := (h.costs.low hN).2; omega))]; exact hx) (fun i hi => Below.heap_setCell w ⟨G, j, none⟩ u _ (by show R i ≠ G; have := (h.costs.rows i hi).2.1; omega))
theorem FrM.new {B T : Nat} {w w1 : World} {sv sv' : Value} (h : FrM B T w w1 sv sv') (hB : B <= w.heap.size) {p : Addr} (hp : w.heap.size <= p.block) (u : Value) : FrM B T w (w1.setCell p u) sv sv' where
 below := h.below.setCell (Nat.le_trans hB hp) u
 size := by simpa using h.size
 top := h.top
 keep := fun g h3 h4 h5 => by rw [Below.heap_setCell w1 p u g (by omega)]; exact h.keep g h3 h4 h5
 own := h.own
theorem FrM.al {B T : Nat} {w w1 : World} {sv sv' : Value} (h : FrM B T w w1 sv sv') (hB : B <= w.heap.size) (o : Obj) : FrM B T w (w1.alloc o) sv sv' where
 below := h.below.alloc (Nat.le_trans hB h.size) o
 size := Nat.le_trans h.size (by simp)
 top := h.top
 keep := fun g h3 h4 h5 => by rw [Below.heap_alloc w1 o g (Nat.lt_of_lt_of_le h4 h.size)]; exact h.keep g h3 h4 h5
 own := h.own
theorem MkAt.al {w : World} {B T b N : Nat} {sv : Value} {S : List Int} {cv : Value} {g0 o0 cc : Nat} {R : Nat -> Nat} {dv rv : Value} {M : Mat} (h : MkAt w B T b N sv S cv g0 o0 cc R dv rv M) (o : Obj) : MkAt (w.alloc o) B T b N sv S cv g0 o0 cc R dv rv M := h.bel ((Below.refl _ _).alloc (Nat.le_refl _) o)
theorem one_any {w : World} {B T b N : Nat} {sv : Value} {S : List Int} {cv : Value} {g0 o0 cc : Nat} {R : Nat -> Nat} {dv rv : Value} {M : Mat} (h : MkAt w B T b N sv S cv g0 o0 cc R dv rv M) (x : Int) (hS : S.length < N) :
  Calls Tryz.prog 67 #[.pointer (some ⟨b, 0, none⟩), .int .i64 x] w fun e w' => ∃ v sv', e = .returned v /\ PieceV w' (fun g => w.heap.size <= g /\ Left_ T sv' g) v [((S.length : Nat), 0)] [((S.length : Nat), 0)] 1152921504606846976 /\ MkAt w' B T b N sv' (S ++ [x]) cv g0 o0 cc R dv rv M /\ FrM B T w w' sv sv' := by
  obtain ⟨W0, hW0⟩ : ∃ W0, w.alloc (.cells #[.slice none 0 0, .slice none 0 0, .int .i64 0] 87) = W0 := ⟨_, rfl⟩
  have hb0 : Below w.heap.size w W0 := by rw [<- hW0]; exact (Below.refl _ _).alloc (Nat.le_refl _) _
  have hx0 : Blk W0 w.heap.size 87 #[.slice none 0 0, .slice none 0 0, .int .i64 0] := by rw [<- hW0]; exact Blk.new _ _ _
  have hown : sv.ownBlock ≠ some w.heap.size := fun e => by have := (h.sets.lt _ e).2; omega
  have hfr0 : FrM B T w W0 sv sv := FrM.quiet hb0 h.top (BB h.bB h.top)
  have hp := pos_any (h.bel hb0) x hS
  obtain ⟨n, hn⟩ : ∃ n, S.length = n := ⟨_, rfl⟩
  rw [hn] at hp ⊢
  have htop := h.top
  have HP := Lib.hid hp; have HX0 := Lib.hid hx0; have HF0 := Lib.hid hfr0; have HOW := Lib.hid hown; have HT := Lib.hid htop; have HBB := Lib.hid h.bB
  have HW0 := Lib.hid hW0
  clear hp hx0 hfr0 hown h hn hb0 hW0
  go_enter Tryz.func67, Tryz.ntmps67
  go_wp2_with fail
  rw [HW0.out]
  refine HP.out.mono ?_
  rintro e w1 ⟨sv', rfl, hmk, hfr⟩
  have hx1 : Blk w1 w.heap.size 87 #[.slice none 0 0, .slice none 0 0, .int .i64 0] := (hfr.keep _ HT.out HX0.out.lt HOW.out).trans HX0.out
  have hwl := HX0.out.lt
  have hown' : sv'.ownBlock ≠ some w.heap.size := fun e => by
   rcases hfr.own _ e with q | q
   ·exact HOW.out q
   ·omega
  have hz1 : w.heap.size < w1.heap.size := hx1.lt
  have hz2 : w.heap.size < w1.heap.size + 1 := by omega
  have r0 := Blk.cell hx1 0; have r1 := Blk.cell hx1 1; have r2 := Blk.cell hx1 2
  have fr0 := Blk.frozen hx1 0; have fr1 := Blk.frozen hx1 1; have fr2 := Blk.frozen hx1 2
  simp only [List.getElem?_toArray, List.getElem?_cons_zero, List.getElem?_cons_succ] at r0 r1 r2
  have HMK := Lib.hid hmk; have HFR := Lib.hid (HF0.out.trans hfr); have HX1 := Lib.hid hx1; have HO1 := Lib.hid hown'
  clear hmk hfr hx1 hown'
  go_wp2_with fail
  have hB := BB HBB.out HT.out
  have hm := ((((HMK.out.far HT.out HO1.out (j := 0) (.slice (some ⟨w1.heap.size, 0, none⟩) 1 1)).far HT.out HO1.out (j := 1) (.slice (some ⟨w1.heap.size + 1, 0, none⟩) 1 1)).far HT.out HO1.out (j := 2) (.int .i64 1152921504606846976)).al (.cells #[.int .i64 n, .int .i64 0] 123)).al (.cells #[.int .i64 n, .int .i64 0] 123)
  have hf := ((((HFR.out.new hB (p := ⟨w.heap.size, 0, none⟩) (Nat.le_refl _) (.slice (some ⟨w1.heap.size, 0, none⟩) 1 1)).new hB (p := ⟨w.heap.size, 1, none⟩) (Nat.le_refl _) (.slice (some ⟨w1.heap.size + 1, 0, none⟩) 1 1)).new hB (p := ⟨w.heap.size, 2, none⟩) (Nat.le_refl _) (.int .i64 1152921504606846976)).al hB (.cells #[.int .i64 n, .int .i64 0] 123)).al hB (.cells #[.int .i64 n, .int .i64 0] 123)
  refine bodyPost_ret (v := .agg #[.slice (some ⟨w1.heap.size, 0, none⟩) 1 1, .slice (some ⟨w1.heap.size + 1, 0, none⟩) 1 1, .int .i64 1152921504606846976]) (by simp [results, Tryz.results67, go_sem, r0, r1, r2, hz1, hz2]) rfl ⟨_, sv', rfl, ⟨_, _, rfl, doors_one ?_ ?_, doors_one ?_ ?_⟩, hm, hf⟩
  ·refine Blk.alloc ?_ _
   have := Blk.new (((w1.setCell ⟨w.heap.size, 0, none⟩ (.slice (some ⟨w1.heap.size, 0, none⟩) 1 1)).setCell ⟨w.heap.size, 1, none⟩ (.slice (some ⟨w1.heap.size + 1, 0, none⟩) 1 1)).setCell ⟨w.heap.size, 2, none⟩ (.int .i64 1152921504606846976)) 123 #[.int .i64 n, .int .i64 0]
   simpa using this
  ·exact ⟨by omega, by have := HT.out; omega, fun e => by have := (HMK.out.sets.lt _ e).2; omega⟩
  ·have := Blk.new ((((w1.setCell ⟨w.heap.size, 0, none⟩ (.slice (some ⟨w1.heap.size, 0, none⟩) 1 1)).setCell ⟨w.heap.size, 1, none⟩ (.slice (some ⟨w1.heap.size + 1, 0, none⟩) 1 1)).setCell ⟨w.heap.size, 2, none⟩ (.int .i64 1152921504606846976)).alloc (.cells #[.int .i64 n, .int .i64 0] 123)) 123 #[.int .i64 n, .int .i64 0]
   simpa using this
  ·exact ⟨by omega, by have := HT.out; omega, fun e => by have := (HMK.out.sets.lt _ e).2; omega⟩
end Go.Proofs.YtfccnadbiglagaaGreat
