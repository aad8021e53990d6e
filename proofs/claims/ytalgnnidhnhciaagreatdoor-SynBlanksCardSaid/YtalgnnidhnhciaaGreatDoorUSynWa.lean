/- Contracts of syn's writing: a builder within a writer; words one behind the other. Patterns and sets as they are written, as rows of signs; a row of signs so written is read as it was. -/
import Derived.Test.YtalgnnidhnhciaaGreatDoorUSynP
import Derived.Test.YtalgnnidhnhciaaGreatDoorShelf
import Derived.Lib.OthersKept
import Derived.Lib.FrozenHead2
import Derived.BigCall
import Derived.Deep.LoopGhost
import Derived.LoopTactic
set_option linter.unusedVariables false
set_option linter.unusedSimpArgs false
set_option maxRecDepth 100000
set_option maxHeartbeats 2000000
namespace Go.Proofs.YtalgnnidhnhciaaGreatDoor
open Go Go.RowKit Go.Proofs
def TabD (w : World) : Prop := w.cell? ⟨6, 15, none⟩ = some (.int .u8 4)
theorem TabD.lt {w : World} (h : TabD w) : 6 < w.heap.size := World.block_lt_of_cell? w _ h
theorem TabD.below {B : Nat} {w w' : World} (h : TabD w) (hb : Below B w w') (hB : 6 < B) : TabD w' := by
 unfold TabD
 rw [hb.cell (p := ⟨6, 15, none⟩) hB]; exact h
structure BldW (B b : Nat) (l : Bs) (w : World) : Prop where
 bld : Lib.IsBuilderF 84 5 B b (Lib.byteCells l) w
 tab : TabD w
 low : 6 < B
abbrev BldA (B b : Nat) (l : Bs) (w : World) : Prop := Lib.BuilderAtF 84 5 B b (.pointer (some ⟨b, 0, none⟩)) (Lib.byteCells l) w
theorem neWu : (84 : Nat) ≠ 5 := by decide
theorem lies_writer : liesAt Tryz.prog Tryz.prog.depth 84 (2 / Tryz.prog.cellsOf 84) 0 82 1 = true := by kernel_rfl
theorem str_bytes (s : ByteArray) : Lib.strCells s = Lib.byteCells s.data.toList := by
 simp [Lib.strCells, Lib.byteCells]
structure WFr (B b : Nat) (w w' : World) : Prop where
 below : Below B w w'
 keeps : ∀ g t cs, Blk w g t cs -> g ≠ b -> t ≠ 5 -> Blk w' g t cs
 grows : w.heap.size <= w'.heap.size
theorem WFr.refl (B b : Nat) (w : World) : WFr B b w w := ⟨Below.refl B w, fun _ _ _ h _ _ => h, Nat.le_refl _⟩
theorem WFr.trans {B b : Nat} {w w' w'' : World} (h : WFr B b w w') (k : WFr B b w' w'') : WFr B b w w'' := ⟨h.below.trans k.below, fun g t cs q h1 h2 => k.keeps g t cs (h.keeps g t cs q h1 h2) h1 h2, Nat.le_trans h.grows k.grows⟩
theorem WFr.alloc {B b : Nat} {w w' : World} (h : WFr B b w w') (hB : B <= w'.heap.size) (o : Obj) : WFr B b w (w'.alloc o) := ⟨h.below.alloc hB o, fun g t cs q h1 h2 => Blk.alloc (h.keeps g t cs q h1 h2) o, by have := h.grows; simp; omega⟩
theorem WFr.drew {B b : Nat} {w w' : World} (h : WFr B b w w') : WFr B b w w'.drew := ⟨h.below.drew, h.keeps, h.grows⟩
theorem WFr.drewN {B b : Nat} {w w' : World} (h : WFr B b w w') (n : Nat) : WFr B b w (w'.drewN n) := ⟨⟨h.below.os, h.below.tape, h.below.output, h.below.size, h.below.block⟩, h.keeps, h.grows⟩
theorem WFr.setCell {B b : Nat} {w w' : World} (h : WFr B b w w') (hB : B <= b) (o : Nat) (v : Value) : WFr B b w (w'.setCell ⟨b, o, none⟩ v) :=
 ⟨h.below.setCell (p := ⟨b, o, none⟩) hB v, fun g t cs q h1 h2 => Blk.far (h.keeps g t cs q h1 h2) (p := ⟨b, o, none⟩) h1 v, by simpa [World.setCell] using h.grows⟩
theorem WFr.of_below {B b : Nat} {w w' w'' : World} (h : WFr B b w w') (hB : B <= w'.heap.size) (k : Below w'.heap.size w' w'') : WFr B b w w'' :=
 ⟨h.below.trans (k.mono hB), fun g t cs q h1 h2 => by have q2 := h.keeps g t cs q h1 h2; exact Blk.below q2 k (Blk.lt q2), Nat.le_trans h.grows k.size⟩
theorem copyCheck_w (B b : Nat) (bs : List Value) (w : World) (h : Lib.IsBuilderF 84 5 B b bs w) :
  Calls Tryz.prog 117 #[.pointer (some ⟨b, 0, none⟩)] w fun e w' => e = .returned (.tuple #[]) /\ Lib.BuilderAtF 84 5 B b (.pointer (some ⟨b, 0, none⟩)) bs w' /\ WFr B b w w' := by
  rcases h with h | h
  ·have c0 := h.cell0
   have f0 := h.frozen0
   have s0 := h.shape
   have hu := h.used (.pointer (some ⟨b, 0, none⟩))
   have hB := h.1
   have hbl := h.lt
   have HU := Lib.hid hu; clear h hu
   obtain ⟨j, hj, hjs⟩ := Option.map_eq_some_iff.1 Tryz.Builder_Extra_169.sizeBuilder
   have HJ := Lib.hid hj; have HJS := Lib.hid hjs; have S0 := Lib.hid s0; clear hj hjs s0
   go_enter Tryz.func117, Tryz.ntmps117
   go_wp2
   rw [Lib.run_to_unsafe w ⟨b, 0, none⟩ Tryz.underlying79 Tryz.underlying172 HJ.out (by rw [HJS.out]; decide) S0.out (Nat.zero_lt_succ 1)]
   simp only [Result.andThen]
   rw [Oper.upon_value]
   go_wp2
   rw [run_callFunc_extern Tryz.func142 (by kernel_rfl) (by kernel_rfl) (by kernel_rfl) (e := Extern.AbiNoEscape.same) (by kernel_rfl)]
   rw [Lib.run_noEscape]
   simp only [Result.andThen]
   rw [Oper.upon_value]
   go_wp2
   rw [Lib.run_from_unsafe w ⟨b, 0, none⟩ Tryz.underlying172 Tryz.underlying79 HJ.out S0.out lies_writer]
   simp only [Result.andThen]
   rw [Oper.upon_value]
   go_wp2
   go_end0
   exact ⟨rfl, HU.out, (WFr.refl B b w).setCell hB 0 _⟩
  ·have c0 := h.cell0
   have HU := Lib.hid h; clear h
   obtain ⟨j, hj, hjs⟩ := Option.map_eq_some_iff.1 Tryz.Builder_Extra_169.sizeBuilder
   have HJ := Lib.hid hj; clear hj hjs
   go_enter Tryz.func117, Tryz.ntmps117
   go_wp2
   rw [Lib.run_neq_ptr_same w _ Tryz.underlying79 HJ.out]
   go_wp2
   go_end0
   exact ⟨rfl, HU.out, WFr.refl B b w⟩
theorem info_byteW : (Tryz.prog.info? 5).map (fun i => (i.zero, i.size, i.bytes)) = some (some (.int .u8 0), 1, 1) := by kernel_rfl
theorem writeString_w (B b : Nat) (l : Bs) (s : ByteArray) (w : World) (h : BldW B b l w) (hlen : l.length + s.size <= 140737488355328) (hBw : B <= w.heap.size) :
  Calls Tryz.prog 96 #[.pointer (some ⟨b, 0, none⟩), .string s] w fun e w' => e = .returned (.tuple #[.int .i64 s.size, .nilIface]) /\ (BldA B b (l ++ s.data.toList) w' /\ WFr B b w w') := by
  obtain ⟨i0, hi, hz0, hz1, hz2⟩ := info_parts info_byteW
  have hl : (Lib.byteCells l).length = l.length := Lib.byteCells_length l
  go_enter Tryz.func96, Tryz.ntmps96
  go_wp2_with fail
  refine (copyCheck_w B b _ _ h.bld).mono ?_
  rintro e w1 ⟨rfl, h1, hb1⟩
  obtain ⟨hB, v, hbk, hown, hne⟩ := h1
  have c0 : w1.cell? ⟨b, 0, none⟩ = some (.pointer (some ⟨b, 0, none⟩)) := by rw [Lib.cell_of_heap hbk]; rfl
  have c1 : w1.cell? ⟨b, 1, none⟩ = some v := by rw [Lib.cell_of_heap hbk]; rfl
  go_wp2_with (at_builtin; refine Lib.wpList_append_own_stringF _ rfl _ _ 80 9 rfl B 5 i0 Tryz.underlying80 Tryz.underlying9 hi hz0 hz1 hz2 _ _ _ rfl hown s rfl ?c3 ?c4 ?c5 ?_)
  case c3 => unfold maxLen; omega
  case c4 => omega
  case c5 => have := hb1.grows; omega
  intro v' w2 hown' hgrow _
  have hlt : b < w1.heap.size := by
   rcases Nat.lt_or_ge b w1.heap.size with h' | h'
   ·exact h'
   ·simp [Array.getElem?_eq_none h'] at hbk
  have hb2 : w2.heap[b]? = some (.cells #[.pointer (some ⟨b, 0, none⟩), v] 84 (0, 0)) := by
   rw [hgrow.block b hlt (fun e => hne e.symm)]
   exact hbk
  have d0 : w2.cell? ⟨b, 0, none⟩ = some (.pointer (some ⟨b, 0, none⟩)) := by rw [Lib.cell_of_heap hb2]; rfl
  have d1 : w2.cell? ⟨b, 1, none⟩ = some v := by rw [Lib.cell_of_heap hb2]; rfl
  have f1 : w2.frozen? ⟨b, 1, none⟩ = false := Lib.frozen_of_heap hb2 1
  obtain ⟨ao, n', cap, rfl⟩ : ∃ ao n' cap, v' = .slice ao n' cap := by
   rcases hown'.2 with ⟨hv, _⟩ | ⟨g, cap, cur, fz, hv, _⟩
   ·exact ⟨_, _, _, hv⟩
   ·exact ⟨_, _, _, hv⟩
  go_wp2
  go_ret2
  have e : Lib.byteCells l ++ Lib.strCells s = Lib.byteCells (l ++ s.data.toList) := by rw [str_bytes]; simp [Lib.byteCells]
  refine ⟨rfl, ?_, ?_⟩
  ·rw [e] at hown'
   exact Lib.BuilderAtF.put (T := 84) (e := 5) hB hb2 (bs' := Lib.byteCells (l ++ s.data.toList)) (by
    have e2 : (Lib.byteCells (l ++ s.data.toList)).length = l.length + s.size := by rw [Lib.byteCells_length, List.length_append]; rfl
    rw [e2]; exact hown') neWu
  ·refine WFr.setCell ⟨hb1.below.grown hgrow (by have := hb1.grows; omega) (fun k hk => (hown.lt k hk).1), fun g t cs q h1 h2 => ?_, Nat.le_trans hb1.grows hgrow.size⟩ hB 1 _
   have q1 := hb1.keeps g t cs q h1 h2
   refine Blk.grown q1 hgrow (fun e => ?_)
   rcases hown.2 with ⟨hv, _⟩ | ⟨g', cap', cur, fz, hv, _, hg, _⟩
   ·rw [hv] at e; cases e
   ·rw [hv] at e
    have e' : g = g' := by injection e
    subst e'
    unfold Blk at q1
    rw [hg] at q1
    injection q1 with q1
    injection q1 with _ q1 _
    exact h2 q1.symm
theorem string_w (B b : Nat) (l : Bs) (w : World) (h : BldW B b l w) (h0 : l ≠ []) :
  Calls Tryz.prog 39 #[.pointer (some ⟨b, 0, none⟩)] w fun e w' => e = .returned (.string ⟨l.toArray⟩) /\ Below B w w' := by
  obtain ⟨p, hAt⟩ : ∃ p, Lib.BuilderAtF 84 5 B b p (Lib.byteCells l) w := by
   rcases h.bld with h | h
   ·exact ⟨_, h⟩
   ·exact ⟨_, h⟩
  obtain ⟨hB, v, hbk, hown, hne⟩ := hAt
  have hl0 : l.length ≠ 0 := by simpa using h0
  rw [Lib.byteCells_length] at hown
  obtain ⟨g, cap, cur, fz, rfl, hbg, hg, hfz, hnc, hcm, hcs, htake⟩ : ∃ g cap cur fz, v = .slice (some ⟨g, 0, none⟩) l.length cap /\ B <= g /\ w.heap[g]? = some (.cells cur 5 fz) /\ fz.2 <= l.length * 1 /\ l.length <= cap /\ cap <= maxLen /\ cur.size = cap * 1 /\ cur.toList.take (l.length * 1) = Lib.byteCells l := by
   rcases hown.2 with ⟨_, hz⟩ | ⟨g, cap, cur, fz, hv, r⟩
   ·exact absurd hz hl0
   ·exact ⟨g, cap, cur, fz, hv, r⟩
  have c1 : w.drew.cell? ⟨b, 1, none⟩ = some (.slice (some ⟨g, 0, none⟩) l.length cap) := by
   have : w.drew.heap[b]? = some (.cells #[p, .slice (some ⟨g, 0, none⟩) l.length cap] 84 (0, 0)) := hbk
   rw [Lib.cell_of_heap this]; rfl
  have hSD : (Builtin.unsafeSliceData_ #[80] 121 #[.slice (some ⟨g, 0, none⟩) l.length cap]).run Tryz.prog w.drew = .ok (.pointer (some ⟨g, 0, none⟩)) w.drew :=
   Lib.run_unsafeSliceData_row _ _ _ _ _ _ (by omega)
  have hUS : (Builtin.unsafeString_ #[121, 3] 9 #[.pointer (some ⟨g, 0, none⟩), .int .i64 l.length]).run Tryz.prog w.drew = .ok (.string ⟨l.toArray⟩) (w.drew.freeze ⟨g, 0, none⟩ l.length) := by
   refine Lib.run_unsafeString_row w.drew 121 3 9 5 Tryz.underlying121 Tryz.Builder_Extra_169.cellsByte g cur.size (by have hg' : w.drew.heap[g]? = some (.cells cur 5 fz) := hg; simp [World.shape?, hg']) l h0 (by omega) (by unfold maxLen at hcm; omega) ?_
   intro j x hx
   have := hown.cells (g := g) rfl j (.int .u8 x.toNat) (by simp [Lib.byteCells, hx])
   exact this
  have HB := Lib.hid (Lib.below_freeze (Below.drew (Below.refl B w)) (p := ⟨g, 0, none⟩) hbg l.length)
  clear hown hbk hg htake hcs hfz h
  go_enter Tryz.func39, Tryz.ntmps39
  go_wp2_with fail
  go_region
  all_goals (
   try apply_assumption
   go_wp2_with fail
   go_ret
   exact ⟨rfl, HB.out⟩)
def catS (ss : List ByteArray) : Bs := ss.flatMap fun s => s.data.toList
theorem catS_take (ss : List ByteArray) (k : Nat) (hk : k < ss.length) : catS (ss.take (k + 1)) = catS (ss.take k) ++ (ss[k]).data.toList := by
 unfold catS
 rw [List.take_succ_eq_append_getElem hk, List.flatMap_append, List.flatMap_singleton]
theorem catS_len (ss : List ByteArray) (k : Nat) (hk : k < ss.length) : (catS (ss.take k)).length + (ss[k]).size <= (catS ss).length := by
 have h := catS_take ss k hk
 have h2 : catS ss = catS (ss.take (k + 1)) ++ catS (ss.drop (k + 1)) := by
  unfold catS
  rw [<- List.flatMap_append, List.take_append_drop]
 rw [h2, h]
 simp only [List.length_append]
 have : (ss[k]).data.toList.length = (ss[k]).size := rfl
 omega
def WEnd (B b : Nat) (l : Bs) (w : World) (e : Ending) (w' : World) : Prop := e = .returned (.tuple #[]) /\ BldW B b l w' /\ WFr B b w w'
theorem all_w (B b H : Nat) (l : Bs) (ss : List ByteArray) (n : Nat) (hn : ss.length = n) (w : World) (h : BldW B b l w) (hH : Blk w H 9 (ss.map Value.string).toArray) (hHb : H ≠ b) (hlen : l.length + (catS ss).length <= 1000000000) (hn9 : n <= 1000) (hBw : B <= w.heap.size) :
  Calls Tryz.prog 68 #[.pointer (some ⟨b, 0, none⟩), .slice (some ⟨H, 0, none⟩) n n] w (WEnd B b (l ++ catS ss) w) := by
  have H0 := Lib.hid h; have HH := Lib.hid hH; have HN := Lib.hid hn
  clear h hH hn
  go_enter Tryz.func68, Tryz.ntmps68
  go_wp2_with fail
  go_loopg [8] n (fun gk v8 wr => ∃ k : Nat, v8 = .int .i64 k /\ gk = n - k /\ k <= n /\ Hid (BldW B b (l ++ catS (ss.take k)) wr) /\ Hid (WFr B b w wr))
  case atStart => exact ⟨0, rfl, rfl, Nat.zero_le _, Lib.hid (by simpa [catS] using H0.out), Lib.hid (WFr.refl _ _ _)⟩
  case round =>
   obtain ⟨k, rfl, hgk, hk, HB, HF⟩ := hrel
   have HGK := Lib.hid hgk; clear hgk
   have i0 : (0 : Int) <= (k : Int) := Int.natCast_nonneg _
   by_cases hlt : k < n
   ·have hks : k < ss.length := by rw [HN.out]; exact hlt
    have hbl := HF.out.keeps H _ _ HH.out hHb (by decide)
    have hc := Blk.cell hbl k
    rw [List.getElem?_toArray, List.getElem?_map, List.getElem?_eq_getElem hks] at hc
    simp only [Option.map_some] at hc
    have hll := catS_len ss k hks
    have hws := writeString_w B b (l ++ catS (ss.take k)) ss[k] wr HB.out (by rw [List.length_append]; omega) (by have := HF.out.grows; omega)
    rw [List.append_assoc, <- catS_take ss k hks] at hws
    obtain ⟨s, hs⟩ : ∃ s, ss[k] = s := ⟨_, rfl⟩
    rw [hs] at hc hws
    have i1 : (k : Int) < (n : Int) := by omega
    have i2 : (n : Int) <= 1000 := by omega
    have HW := Lib.hid hws
    clear hws hll hbl hs
    go_wp2_with fail
    refine HW.out.mono ?_
    rintro e w1 ⟨rfl, hA, hF1⟩
    have HA := Lib.hid hA; have HF1 := Lib.hid hF1; clear hA hF1
    go_wp2_with fail
    go_roundg (n - (k + 1))
    case measure => have := HGK.out; omega
    case rel => exact ⟨k + 1, by go_num, rfl, hlt, Lib.hid ⟨.inr HA.out, HB.out.tab.below HF1.out.below HB.out.low, HB.out.low⟩, Lib.hid (HF.out.trans HF1.out)⟩
   ·have hkn : k = n := by omega
    subst hkn
    have ht : ss.take k = ss := List.take_of_length_le (by rw [HN.out]; exact Nat.le_refl _)
    have hB := HB.out
    rw [ht] at hB
    have HB2 := Lib.hid hB; clear hB ht
    go_wp2_with fail
    go_end0
    exact ⟨rfl, HB2.out, HF.out⟩
end Go.Proofs.YtalgnnidhnhciaaGreatDoor
namespace Go.Proofs.YtalgnnidhnhciaaGreatDoor
inductive Pat where
 | none_ | set (s : Bs) | any_ | cat (a b : Pat) | alt (a b : Pat) | star (a : Pat) | times (a : Pat) (lo hi : Nat) | weight (a : Pat) (w : Nat)
inductive Cls where
 | range (lo hi : Nat) | name (s : Bs) | any_ | not_ (c : Cls) | or_ (a b : Cls) | and_ (a b : Cls) | less (a b : Cls)
def Pat.tree : Pat -> Tree
 | .none_ => rNone
 | .set s => rSet s
 | .any_ => rAny
 | .cat a b => rTwo 4 a.tree b.tree
 | .alt a b => rTwo 5 a.tree b.tree
 | .star a => rStar a.tree
 | .times a lo hi => rTimes a.tree lo hi
 | .weight a w => rWeight a.tree w
def Cls.tree : Cls -> Tree
 | .range lo hi => cRange lo hi
 | .name s => cName s
 | .any_ => cAny
 | .not_ c => cNot c.tree
 | .or_ a b => cTwo 5 a.tree b.tree
 | .and_ a b => cTwo 6 a.tree b.tree
 | .less a b => cTwo 7 a.tree b.tree
def Pat.atom : Pat -> Bool
 | .none_ => true | .set _ => true | .any_ => true | _ => false
def Cls.atom : Cls -> Bool
 | .range _ _ => true | .name _ => true | .any_ => true | _ => false
def mkT (c : Nat) : Tok := ⟨c, [], 0⟩
def num (n : Nat) : Tok := ⟨259, [], n⟩
def scl (n : Nat) : Tok := ⟨260, [], n⟩
def wrap (at_ : Bool) (l : Toks) : Toks := if at_ then l else mkT 40 :: (l ++ [mkT 41])
def Pat.toks : Pat -> Toks
 | .none_ => [mkT 40, mkT 41]
 | .set s => [⟨258, s, 0⟩]
 | .any_ => [⟨261, wAny, 0⟩]
 | .cat a b => wrap a.atom a.toks ++ wrap b.atom b.toks
 | .alt a b => wrap a.atom a.toks ++ mkT 124 :: wrap b.atom b.toks
 | .star a => wrap a.atom a.toks ++ [mkT 42]
 | .times a lo hi => wrap a.atom a.toks ++ [mkT 123, num lo, mkT 44, num hi, mkT 125]
 | .weight a w => wrap a.atom a.toks ++ [mkT 64, num w]
def Cls.toks : Cls -> Toks
 | .range lo hi => if lo = hi then [scl lo] else [scl lo, mkT 46, mkT 46, scl hi]
 | .name s => [⟨258, s, 0⟩]
 | .any_ => [⟨261, wAny, 0⟩]
 | .not_ c => mkT 33 :: wrap c.atom c.toks
 | .or_ a b => wrap a.atom a.toks ++ mkT 124 :: wrap b.atom b.toks
 | .and_ a b => wrap a.atom a.toks ++ mkT 38 :: wrap b.atom b.toks
 | .less a b => wrap a.atom a.toks ++ mkT 45 :: wrap b.atom b.toks
def more (at_ : Bool) (n : Nat) : Nat := if at_ then n else n + 1
def Pat.deep : Pat -> Nat
 | .none_ => 1 | .set _ => 0 | .any_ => 0
 | .cat a b => max (more a.atom a.deep) (more b.atom b.deep)
 | .alt a b => max (more a.atom a.deep) (more b.atom b.deep)
 | .star a => more a.atom a.deep
 | .times a _ _ => more a.atom a.deep
 | .weight a _ => more a.atom a.deep
def Cls.deep : Cls -> Nat
 | .range _ _ => 0 | .name _ => 0 | .any_ => 0
 | .not_ c => more c.atom c.deep + 1
 | .or_ a b => max (more a.atom a.deep) (more b.atom b.deep)
 | .and_ a b => max (more a.atom a.deep) (more b.atom b.deep)
 | .less a b => max (more a.atom a.deep) (more b.atom b.deep)
def Pat.Ok (D : List Bs) (wg : Bool) : Pat -> Prop
 | .none_ => True
 | .set s => s ∈ D
 | .any_ => True
 | .cat a b => a.Ok D wg /\ b.Ok D wg
 | .alt a b => a.Ok D wg /\ b.Ok D wg
 | .star a => a.Ok D wg
 | .times a lo hi => a.Ok D wg /\ lo <= hi /\ hi <= 12
 | .weight a w => a.Ok D wg /\ wg = true /\ w <= 1000000
def Cls.Ok (D : List Bs) : Cls -> Prop
 | .range lo hi => lo <= hi /\ hi <= 1114111
 | .name s => s ∈ D
 | .any_ => True
 | .not_ c => c.Ok D
 | .or_ a b => a.Ok D /\ b.Ok D
 | .and_ a b => a.Ok D /\ b.Ok D
 | .less a b => a.Ok D /\ b.Ok D
@[simp] theorem kd_cons (t : Tok) (ts : Toks) : kd (t :: ts) = t.kind := rfl
@[simp] theorem hd_cons (t : Tok) (ts : Toks) : hd (t :: ts) = t := rfl
@[simp] theorem nxt_cons (t : Tok) (ts : Toks) : nxt (t :: ts) = chk ts := rfl
def good (ts : Toks) : Prop := kd ts ≠ 257 /\ kd ts ≠ 266
theorem blt_no {a b : Nat} (h : b <= a) : Nat.blt a b = false := by
 rw [Bool.eq_false_iff]; intro h1; have := Nat.le_of_ble_eq_true h1; omega
theorem blt_yes {a b : Nat} (h : a < b) : Nat.blt a b = true := Nat.ble_eq_true_of_le h
theorem chk_good {ts : Toks} (h : good ts) : chk ts = .ok ts := by
 obtain ⟨h1, h2⟩ := h
 simp [chk, h1, h2]
theorem good_cons {t : Tok} {ts : Toks} (h1 : t.kind ≠ 257) (h2 : t.kind ≠ 266) : good (t :: ts) := ⟨h1, h2⟩
@[simp] theorem mkT_kind (c : Nat) : (mkT c).kind = c := rfl
@[simp] theorem num_kind (c : Nat) : (num c).kind = 259 := rfl
@[simp] theorem scl_kind (c : Nat) : (scl c).kind = 260 := rfl
@[simp] theorem num_n (c : Nat) : (num c).n = c := rfl
@[simp] theorem scl_n (c : Nat) : (scl c).n = c := rfl
@[simp] theorem on_ok (ts : Toks) (f : Toks -> X) : X.on (.ok ts) f = f ts := rfl
@[simp] theorem into_ok {α : Type} (ts : Toks) (f : Toks -> Rd α) : X.into (.ok ts) f = f ts := rfl
@[simp] theorem give_ok {α : Type} (ts : Toks) (a : α) : X.give (.ok ts) a = .ok (a, ts) := rfl
@[simp] theorem then_ok {α β : Type} (a : α) (ts : Toks) (f : α -> Toks -> Rd β) : Rd.then_ (.ok (a, ts)) f = f a ts := rfl
@[simp] theorem chk_mkT (c : Nat) (ts : Toks) (h1 : c ≠ 257) (h2 : c ≠ 266) : chk (mkT c :: ts) = .ok (mkT c :: ts) := chk_good (good_cons h1 h2)
@[simp] theorem chk_num (c : Nat) (ts : Toks) : chk (num c :: ts) = .ok (num c :: ts) := chk_good (good_cons (by simp) (by simp))
@[simp] theorem chk_scl (c : Nat) (ts : Toks) : chk (scl c :: ts) = .ok (scl c :: ts) := chk_good (good_cons (by simp) (by simp))
section
variable (F : Nat) (D : List Bs) (wg : Bool)
theorem wrap_head (p : Pat) : ∃ t r, wrap p.atom p.toks = t :: r /\ (t.kind = 258 \/ t.kind = 261 \/ t.kind = 40) := by
 cases p <;> simp [wrap, Pat.atom, Pat.toks, mkT]
theorem good_wrap (p : Pat) (l : Toks) : good (wrap p.atom p.toks ++ l) := by
 obtain ⟨t, r, h, hk⟩ := wrap_head p
 rw [h]; rcases hk with hk | hk | hk <;> exact good_cons (by omega) (by omega)
theorem beg_wrap (p : Pat) (l : Toks) : begB (wrap p.atom p.toks ++ l) = true := by
 obtain ⟨t, r, h, hk⟩ := wrap_head p
 rw [h]; rcases hk with hk | hk | hk <;> simp [begB, hk]
def endP (ts : Toks) : Prop := good ts /\ kd ts ≠ 42 /\ kd ts ≠ 123 /\ kd ts ≠ 64
def endR (ts : Toks) : Prop := endP ts /\ begB ts = false /\ kd ts ≠ 124
theorem behind_stop (k : Nat) (x : Tree) (ts : Toks) (h : endP ts) : behindR wg k x ts = .ok (x, ts) := by
 obtain ⟨_, h1, h2, h3⟩ := h
 cases k <;> simp [behindR, h1, h2, h3]
def lvlE : Nat -> Option (Toks -> Rd Tree)
 | 0 => none
 | d + 1 => some (rexR F D wg d)
theorem pcR_eq (d : Nat) : pcR F D wg d = pieceR F D wg (lvlE F D wg d) := by cases d <;> rfl
theorem row_one (d : Nat) (ts l : Toks) (y : Tree) (h : pcR F D wg d ts = .ok (y, l)) (hb : begB ts = true) (he : begB l = false) :
  rowR F (pcR F D wg d) ts = .ok (y, l) := by
  unfold rowR
  simp only [hb, Bool.not_true, Bool.false_eq_true, if_false, h, then_ok]
  cases F <;> simp [rowLoop, he]
theorem either_one (d : Nat) (ts l : Toks) (y : Tree) (h : rowR F (pcR F D wg d) ts = .ok (y, l)) (he : kd l ≠ 124) : rexR F D wg d ts = .ok (y, l) := by
 unfold rexR eitherR
 simp only [h, then_ok]
 cases F <;> simp [eitherLoop, he]
theorem rex_back (hF : 2 <= F) (p : Pat) (hok : p.Ok D wg) :
  (∀ d l, p.deep <= d -> endR l -> rexR F D wg d (p.toks ++ l) = .ok (p.tree, l)) /\
  (∀ d l, more p.atom p.deep <= d -> good l -> bareR D (lvlE F D wg d) (wrap p.atom p.toks ++ l) = .ok (p.tree, l)) := by
  obtain ⟨F', rfl⟩ : ∃ F', F = F' + 2 := ⟨F - 2, by omega⟩
  have bare_of : ∀ q : Pat, q.atom = false -> (∀ d l, q.deep <= d -> endR l -> rexR (F' + 2) D wg d (q.toks ++ l) = .ok (q.tree, l)) ->
    ∀ d l, more q.atom q.deep <= d -> good l -> bareR D (lvlE (F' + 2) D wg d) (wrap q.atom q.toks ++ l) = .ok (q.tree, l) := by
    intro q ha hq d l hd hl
    rw [ha] at hd ⊢
    simp only [more, Bool.false_eq_true, if_false] at hd
    obtain ⟨d', rfl⟩ : ∃ d', d = d' + 1 := ⟨d - 1, by omega⟩
    have hg : good (q.toks ++ (mkT 41 :: l)) := by
     cases q <;> first
      | (simp [Pat.atom] at ha; done)
      | (simp only [Pat.toks, List.append_assoc]; exact good_wrap _ _)
    have hr := hq d' (mkT 41 :: l) (by omega) ⟨⟨good_cons (by simp) (by simp), by simp, by simp, by simp⟩, by simp [begB], by simp⟩
    simp only [wrap, Bool.false_eq_true, if_false, List.cons_append, List.append_assoc, List.nil_append]
    unfold bareR
    simp [lvlE, chk_good hg, hr, tk, chk_good hl]
  have one : ∀ q : Pat, (∀ d l, more q.atom q.deep <= d -> good l -> bareR D (lvlE (F' + 2) D wg d) (wrap q.atom q.toks ++ l) = .ok (q.tree, l)) ->
    ∀ d l, more q.atom q.deep <= d -> good l -> pcR (F' + 2) D wg d (wrap q.atom q.toks ++ l) = behindR wg (F' + 2) q.tree l := by
    intro q hq d l hd hl
    rw [pcR_eq, pieceR, hq d l hd hl, then_ok]
  induction p with
  | none_ =>
    have hb : ∀ d l, more Pat.none_.atom Pat.none_.deep <= d -> good l -> bareR D (lvlE (F' + 2) D wg d) (wrap Pat.none_.atom Pat.none_.toks ++ l) = .ok (Pat.none_.tree, l) := by
     intro d l hd hl
     simp only [more, Pat.atom, if_true, Pat.deep] at hd
     obtain ⟨d', rfl⟩ : ∃ d', d = d' + 1 := ⟨d - 1, by omega⟩
     simp [wrap, Pat.atom, Pat.toks, bareR, lvlE, rexR, eitherR, rowR, begB, eitherLoop, tk, chk_good hl, Pat.tree]
    refine ⟨fun d l hd hl => ?_, hb⟩
    refine either_one _ _ _ d _ _ _ (row_one _ _ _ d _ _ _ ?_ (beg_wrap .none_ l) hl.2.1) hl.2.2
    have := one .none_ hb d l hd hl.1.1
    simp only [wrap, Pat.atom, if_true] at this
    rw [this, behind_stop wg _ _ _ hl.1]
  | set s =>
    have hb : ∀ d l, more (Pat.set s).atom (Pat.set s).deep <= d -> good l -> bareR D (lvlE (F' + 2) D wg d) (wrap (Pat.set s).atom (Pat.set s).toks ++ l) = .ok ((Pat.set s).tree, l) := by
     intro d l _ hl
     have hin : s ∈ D := hok
     simp [wrap, Pat.atom, Pat.toks, bareR, knownX, chk_good hl, Pat.tree, hin]
    refine ⟨fun d l hd hl => ?_, hb⟩
    refine either_one _ _ _ d _ _ _ (row_one _ _ _ d _ _ _ ?_ (beg_wrap (.set s) l) hl.2.1) hl.2.2
    have := one (.set s) hb d l hd hl.1.1
    simp only [wrap, Pat.atom, if_true] at this
    rw [this, behind_stop wg _ _ _ hl.1]
  | any_ =>
    have hb : ∀ d l, more Pat.any_.atom Pat.any_.deep <= d -> good l -> bareR D (lvlE (F' + 2) D wg d) (wrap Pat.any_.atom Pat.any_.toks ++ l) = .ok (Pat.any_.tree, l) := by
     intro d l _ hl
     simp [wrap, Pat.atom, Pat.toks, bareR, chk_good hl, Pat.tree]
    refine ⟨fun d l hd hl => ?_, hb⟩
    refine either_one _ _ _ d _ _ _ (row_one _ _ _ d _ _ _ ?_ (beg_wrap .any_ l) hl.2.1) hl.2.2
    have := one .any_ hb d l hd hl.1.1
    simp only [wrap, Pat.atom, if_true] at this
    rw [this, behind_stop wg _ _ _ hl.1]
  | cat a b iha ihb =>
    obtain ⟨oa, ob⟩ := hok
    have ha : ∀ d l, (Pat.cat a b).deep <= d -> endR l -> rexR (F' + 2) D wg d ((Pat.cat a b).toks ++ l) = .ok ((Pat.cat a b).tree, l) := by
     intro d l hd hl
     simp only [Pat.deep] at hd
     refine either_one _ _ _ d _ _ _ ?_ hl.2.2
     have h1 := one a (iha oa).2 d (wrap b.atom b.toks ++ l) (by omega) (good_wrap _ _)
     have h2 := one b (ihb ob).2 d l (by omega) hl.1.1
     rw [behind_stop wg _ _ _ hl.1] at h2
     have hs : endP (wrap b.atom b.toks ++ l) := by
      refine ⟨good_wrap _ _, ?_⟩
      obtain ⟨t, r, h, hk⟩ := wrap_head b
      rw [h]; rcases hk with hk | hk | hk <;> simp [hk]
     rw [behind_stop wg _ _ _ hs] at h1
     simp only [Pat.toks, List.append_assoc]
     unfold rowR
     simp only [beg_wrap, Bool.not_true, Bool.false_eq_true, if_false, h1, then_ok]
     rw [rowLoop, if_pos (beg_wrap _ _), h2, then_ok, rowLoop, if_neg (by rw [hl.2.1]; simp)]
     rfl
    exact ⟨ha, bare_of _ rfl ha⟩
  | alt a b iha ihb =>
    obtain ⟨oa, ob⟩ := hok
    have ha : ∀ d l, (Pat.alt a b).deep <= d -> endR l -> rexR (F' + 2) D wg d ((Pat.alt a b).toks ++ l) = .ok ((Pat.alt a b).tree, l) := by
     intro d l hd hl
     simp only [Pat.deep] at hd
     have h1 := one a (iha oa).2 d (mkT 124 :: (wrap b.atom b.toks ++ l)) (by omega) (good_cons (by simp) (by simp))
     have h2 := one b (ihb ob).2 d l (by omega) hl.1.1
     rw [behind_stop wg _ _ _ hl.1] at h2
     rw [behind_stop wg _ _ _ ⟨good_cons (by simp) (by simp), by simp, by simp, by simp⟩] at h1
     have r1 := row_one _ _ _ d _ _ _ h1 (beg_wrap _ _) (by simp [begB])
     have r2 := row_one _ _ _ d _ _ _ h2 (beg_wrap _ _) hl.2.1
     simp only [Pat.toks, List.append_assoc, List.cons_append]
     unfold rexR eitherR
     rw [r1, then_ok, eitherLoop]
     simp only [kd_cons, mkT_kind, beq_self_eq_true, if_true, nxt_cons, chk_good (good_wrap _ _), into_ok, r2, then_ok]
     rw [eitherLoop, if_neg (by simpa using hl.2.2)]
     rfl
    exact ⟨ha, bare_of _ rfl ha⟩
  | star a iha =>
    have ha : ∀ d l, (Pat.star a).deep <= d -> endR l -> rexR (F' + 2) D wg d ((Pat.star a).toks ++ l) = .ok ((Pat.star a).tree, l) := by
     intro d l hd hl
     simp only [Pat.deep] at hd
     have h1 := one a (iha hok).2 d (mkT 42 :: l) (by omega) (good_cons (by simp) (by simp))
     rw [behindR] at h1
     simp only [kd_cons, mkT_kind, beq_self_eq_true, if_true, nxt_cons, chk_good hl.1.1, into_ok, behind_stop wg _ _ _ hl.1] at h1
     simp only [Pat.toks, List.append_assoc, List.cons_append, List.nil_append]
     exact either_one _ _ _ d _ _ _ (row_one _ _ _ d _ _ _ h1 (beg_wrap _ _) hl.2.1) hl.2.2
    exact ⟨ha, bare_of _ rfl ha⟩
  | times a lo hi iha =>
    obtain ⟨oa, o1, o2⟩ := hok
    have ha : ∀ d l, (Pat.times a lo hi).deep <= d -> endR l -> rexR (F' + 2) D wg d ((Pat.times a lo hi).toks ++ l) = .ok ((Pat.times a lo hi).tree, l) := by
     intro d l hd hl
     simp only [Pat.deep] at hd
     have h1 := one a (iha oa).2 d (mkT 123 :: num lo :: mkT 44 :: num hi :: mkT 125 :: l) (by omega) (good_cons (by simp) (by simp))
     have e1 : ¬ 12 < hi := by omega
     have e2 : ¬ hi < lo := by omega
     rw [behindR] at h1
     simp [timesX, tk, e1, e2, chk_good hl.1.1, behind_stop wg _ _ _ hl.1] at h1
     simp only [Pat.toks, List.append_assoc, List.cons_append, List.nil_append]
     exact either_one _ _ _ d _ _ _ (row_one _ _ _ d _ _ _ h1 (beg_wrap _ _) hl.2.1) hl.2.2
    exact ⟨ha, bare_of _ rfl ha⟩
  | weight a w iha =>
    obtain ⟨oa, rfl, o2⟩ := hok
    have ha : ∀ d l, (Pat.weight a w).deep <= d -> endR l -> rexR (F' + 2) D true d ((Pat.weight a w).toks ++ l) = .ok ((Pat.weight a w).tree, l) := by
     intro d l hd hl
     simp only [Pat.deep] at hd
     have h1 := one a (iha oa).2 d (mkT 64 :: num w :: l) (by omega) (good_cons (by simp) (by simp))
     rw [behindR] at h1
     simp [weightX, tk, chk_good hl.1.1, behind_stop true _ _ _ hl.1] at h1
     simp only [Pat.toks, List.append_assoc, List.cons_append, List.nil_append]
     exact either_one _ _ _ d _ _ _ (row_one _ _ _ d _ _ _ h1 (beg_wrap _ _) hl.2.1) hl.2.2
    exact ⟨ha, bare_of _ rfl ha⟩
theorem wrapC_head (p : Cls) : ∃ t r, wrap p.atom p.toks = t :: r /\ (t.kind = 258 \/ t.kind = 261 \/ t.kind = 260 \/ t.kind = 40) := by
 cases p
 case range lo hi => by_cases h : lo = hi <;> simp [wrap, Cls.atom, Cls.toks, mkT, scl, h]
 all_goals simp [wrap, Cls.atom, Cls.toks, mkT, scl]
theorem good_wrapC (p : Cls) (l : Toks) : good (wrap p.atom p.toks ++ l) := by
 obtain ⟨t, r, h, hk⟩ := wrapC_head p
 rw [h]; rcases hk with hk | hk | hk | hk <;> exact good_cons (by omega) (by omega)
def endN (ts : Toks) : Prop := good ts /\ kd ts ≠ 46
def endC (ts : Toks) : Prop := endN ts /\ kd ts ≠ 38 /\ kd ts ≠ 124 /\ kd ts ≠ 45
def clsE : Nat -> Option (Toks -> Rd Tree) × Option (Toks -> Rd Tree)
 | 0 => (none, none)
 | d + 1 => (some (lvlC F D d).2, some (lvlC F D d).1)
theorem lvlC_1 (d : Nat) : (lvlC F D d).1 = classR F (bothR F (lvlC F D d).2) := by cases d <;> rfl
theorem lvlC_2 (d : Nat) : (lvlC F D d).2 = notR D (clsE F D d).1 (clsE F D d).2 := by cases d <;> rfl
theorem both_one (d : Nat) (ts l : Toks) (y : Tree) (h : (lvlC F D d).2 ts = .ok (y, l)) (he : kd l ≠ 38) : bothR F (lvlC F D d).2 ts = .ok (y, l) := by
 unfold bothR
 rw [h, then_ok]
 cases F <;> simp [bothLoop, he]
theorem class_one (d : Nat) (ts l : Toks) (y : Tree) (h : bothR F (lvlC F D d).2 ts = .ok (y, l)) (h1 : kd l ≠ 124) (h2 : kd l ≠ 45) : (lvlC F D d).1 ts = .ok (y, l) := by
 rw [lvlC_1]
 unfold classR
 rw [h, then_ok]
 cases F <;> simp [classLoop, h1, h2]
theorem class_back (hF : 2 <= F) (p : Cls) (hok : p.Ok D) :
  (∀ d l, p.deep <= d -> endC l -> (lvlC F D d).1 (p.toks ++ l) = .ok (p.tree, l)) /\
  (∀ d l, more p.atom p.deep <= d -> endN l -> (lvlC F D d).2 (wrap p.atom p.toks ++ l) = .ok (p.tree, l)) := by
  obtain ⟨F', rfl⟩ : ∃ F', F = F' + 2 := ⟨F - 2, by omega⟩
  have goodC : ∀ q : Cls, ∀ l, good (q.toks ++ l) := by
   intro q l
   cases q with
   | range lo hi => exact good_wrapC (.range lo hi) l
   | name s => exact good_wrapC (.name s) l
   | any_ => exact good_wrapC .any_ l
   | not_ c => exact good_cons (by simp) (by simp)
   | or_ a b => simp only [Cls.toks, List.append_assoc]; exact good_wrapC _ _
   | and_ a b => simp only [Cls.toks, List.append_assoc]; exact good_wrapC _ _
   | less a b => simp only [Cls.toks, List.append_assoc]; exact good_wrapC _ _
  have bare_of : ∀ q : Cls, q.atom = false -> (∀ d l, q.deep <= d -> endC l -> (lvlC (F' + 2) D d).1 (q.toks ++ l) = .ok (q.tree, l)) ->
    ∀ d l, more q.atom q.deep <= d -> endN l -> (lvlC (F' + 2) D d).2 (wrap q.atom q.toks ++ l) = .ok (q.tree, l) := by
    intro q ha hq d l hd hl
    rw [ha] at hd ⊢
    simp only [more, Bool.false_eq_true, if_false] at hd
    obtain ⟨d', rfl⟩ : ∃ d', d = d' + 1 := ⟨d - 1, by omega⟩
    have hr := hq d' (mkT 41 :: l) (by omega) ⟨⟨good_cons (by simp) (by simp), by simp⟩, by simp, by simp, by simp⟩
    simp only [wrap, Bool.false_eq_true, if_false, List.cons_append, List.append_assoc, List.nil_append]
    rw [lvlC_2]
    unfold notR plainR
    simp [clsE, chk_good (goodC q (mkT 41 :: l)), hr, tk, chk_good hl.1]
  have top_of : ∀ q : Cls, q.atom = true -> (∀ d l, more q.atom q.deep <= d -> endN l -> (lvlC (F' + 2) D d).2 (wrap q.atom q.toks ++ l) = .ok (q.tree, l)) ->
    ∀ d l, q.deep <= d -> endC l -> (lvlC (F' + 2) D d).1 (q.toks ++ l) = .ok (q.tree, l) := by
    intro q ha hq d l hd hl
    have h := hq d l (by rw [ha]; simpa [more] using hd) hl.1
    rw [ha] at h
    simp only [wrap, if_true] at h
    exact class_one _ _ d _ _ _ (both_one _ _ d _ _ _ h hl.2.1) hl.2.2.1 hl.2.2.2
  induction p with
  | range lo hi =>
    have hb : ∀ d l, more (Cls.range lo hi).atom (Cls.range lo hi).deep <= d -> endN l -> (lvlC (F' + 2) D d).2 (wrap (Cls.range lo hi).atom (Cls.range lo hi).toks ++ l) = .ok ((Cls.range lo hi).tree, l) := by
     intro d l _ hl
     rw [lvlC_2]
     unfold notR plainR
     by_cases h : lo = hi
     ·subst h
      simp [wrap, Cls.atom, Cls.toks, spanR, chk_good hl.1, hl.2, Cls.tree]
     ·have hlt : ¬ hi < lo := by have := hok.1; omega
      simp [wrap, Cls.atom, Cls.toks, spanR, h, tk, chk_good hl.1, hlt, Cls.tree]
    exact ⟨top_of _ rfl hb, hb⟩
  | name s =>
    have hb : ∀ d l, more (Cls.name s).atom (Cls.name s).deep <= d -> endN l -> (lvlC (F' + 2) D d).2 (wrap (Cls.name s).atom (Cls.name s).toks ++ l) = .ok ((Cls.name s).tree, l) := by
     intro d l _ hl
     have hin : s ∈ D := hok
     rw [lvlC_2]
     unfold notR plainR
     simp [wrap, Cls.atom, Cls.toks, knownX, chk_good hl.1, hin, Cls.tree]
    exact ⟨top_of _ rfl hb, hb⟩
  | any_ =>
    have hb : ∀ d l, more Cls.any_.atom Cls.any_.deep <= d -> endN l -> (lvlC (F' + 2) D d).2 (wrap Cls.any_.atom Cls.any_.toks ++ l) = .ok (Cls.any_.tree, l) := by
     intro d l _ hl
     rw [lvlC_2]
     unfold notR plainR
     simp [wrap, Cls.atom, Cls.toks, chk_good hl.1, Cls.tree]
    exact ⟨top_of _ rfl hb, hb⟩
  | not_ c ih =>
    have ha : ∀ d l, (Cls.not_ c).deep <= d -> endC l -> (lvlC (F' + 2) D d).1 ((Cls.not_ c).toks ++ l) = .ok ((Cls.not_ c).tree, l) := by
     intro d l hd hl
     simp only [Cls.deep] at hd
     obtain ⟨d', rfl⟩ : ∃ d', d = d' + 1 := ⟨d - 1, by omega⟩
     have h1 := (ih hok).2 d' l (by omega) hl.1
     refine class_one _ _ _ _ _ _ (both_one _ _ _ _ _ _ ?_ hl.2.1) hl.2.2.1 hl.2.2.2
     rw [lvlC_2]
     simp only [Cls.toks, List.cons_append]
     unfold notR
     simp [clsE, chk_good (good_wrapC c l), h1, Cls.tree]
    exact ⟨ha, bare_of _ rfl ha⟩
  | or_ a b iha ihb =>
    obtain ⟨oa, ob⟩ := hok
    have ha : ∀ d l, (Cls.or_ a b).deep <= d -> endC l -> (lvlC (F' + 2) D d).1 ((Cls.or_ a b).toks ++ l) = .ok ((Cls.or_ a b).tree, l) := by
     intro d l hd hl
     simp only [Cls.deep] at hd
     have h1 := both_one _ _ d _ _ _ ((iha oa).2 d (mkT 124 :: (wrap b.atom b.toks ++ l)) (by omega) ⟨good_cons (by simp) (by simp), by simp⟩) (by simp)
     have h2 := both_one _ _ d _ _ _ ((ihb ob).2 d l (by omega) hl.1) hl.2.1
     simp only [Cls.toks, List.append_assoc, List.cons_append]
     rw [lvlC_1]
     unfold classR
     rw [h1, then_ok, classLoop]
     simp only [kd_cons, mkT_kind, beq_self_eq_true, if_true, nxt_cons, chk_good (good_wrapC _ _), into_ok, h2, then_ok]
     rw [classLoop, if_neg (by simpa using hl.2.2.1), if_neg (by simpa using hl.2.2.2)]
     rfl
    exact ⟨ha, bare_of _ rfl ha⟩
  | and_ a b iha ihb =>
    obtain ⟨oa, ob⟩ := hok
    have ha : ∀ d l, (Cls.and_ a b).deep <= d -> endC l -> (lvlC (F' + 2) D d).1 ((Cls.and_ a b).toks ++ l) = .ok ((Cls.and_ a b).tree, l) := by
     intro d l hd hl
     simp only [Cls.deep] at hd
     have h1 := (iha oa).2 d (mkT 38 :: (wrap b.atom b.toks ++ l)) (by omega) ⟨good_cons (by simp) (by simp), by simp⟩
     have h2 := (ihb ob).2 d l (by omega) hl.1
     simp only [Cls.toks, List.append_assoc, List.cons_append]
     refine class_one _ _ _ _ _ _ ?_ hl.2.2.1 hl.2.2.2
     unfold bothR
     rw [h1, then_ok, bothLoop]
     simp only [kd_cons, mkT_kind, beq_self_eq_true, if_true, nxt_cons, chk_good (good_wrapC _ _), into_ok, h2, then_ok]
     rw [bothLoop, if_neg (by simpa using hl.2.1)]
     rfl
    exact ⟨ha, bare_of _ rfl ha⟩
  | less a b iha ihb =>
    obtain ⟨oa, ob⟩ := hok
    have ha : ∀ d l, (Cls.less a b).deep <= d -> endC l -> (lvlC (F' + 2) D d).1 ((Cls.less a b).toks ++ l) = .ok ((Cls.less a b).tree, l) := by
     intro d l hd hl
     simp only [Cls.deep] at hd
     have h1 := both_one _ _ d _ _ _ ((iha oa).2 d (mkT 45 :: (wrap b.atom b.toks ++ l)) (by omega) ⟨good_cons (by simp) (by simp), by simp⟩) (by simp)
     have h2 := both_one _ _ d _ _ _ ((ihb ob).2 d l (by omega) hl.1) hl.2.1
     simp only [Cls.toks, List.append_assoc, List.cons_append]
     rw [lvlC_1]
     unfold classR
     rw [h1, then_ok, classLoop]
     simp only [kd_cons, mkT_kind, nxt_cons, chk_good (good_wrapC _ _), into_ok, h2, then_ok]
     rw [if_neg (by decide), if_pos (by decide), classLoop, if_neg (by simpa using hl.2.2.1), if_neg (by simpa using hl.2.2.2)]
     rfl
    exact ⟨ha, bare_of _ rfl ha⟩
end
end Go.Proofs.YtalgnnidhnhciaaGreatDoor
