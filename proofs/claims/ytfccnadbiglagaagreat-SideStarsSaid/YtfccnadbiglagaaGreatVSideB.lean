/- Contracts of slices.Repeat at one number, side.forbidden. -/
import Derived.Test.YtfccnadbiglagaaGreatVTk
import Derived.Test.YtfccnadbiglagaaGreatVShelfM
import Derived.Test.YtfccnadbiglagaaGreatVSideM
import Derived.Laws.CopyRow
import Derived.Laws.CopyOwn
import Derived.IntWalk
set_option linter.unusedVariables false
set_option linter.unusedSimpArgs false
set_option maxRecDepth 100000
set_option maxHeartbeats 8000000
namespace Go.Proofs.YtfccnadbiglagaaGreat
open Go Go.RowKit Go.Proofs
def repA (n : Nat) (v : Value) : Array Value := (List.replicate n v).toArray
theorem info_int1 : (Tryz.prog.info? 3).map (·.size) = some 1 := by kernel_rfl
theorem wp_copy_self {dst : Option Tmp} {ty : TypeId} {pos : String} {after : Array Edge} {a : Act} {w : World} {K : Act -> World -> Prop} {Q : Exit -> Act -> World -> Prop} (d s : Operand) (g N k : Nat) (x : Value) (hx : x.oneCell' = true)
  (hd : a.eval d = .slice (some ⟨g, k, none⟩) (N - k) (N - k)) (hs : ∃ c, a.eval s = .slice (some ⟨g, 0, none⟩) k c) (hk : k <= N) (z : List Value) (hz : z.length = N - k)
  (hg : Blk w g 3 (List.replicate k x ++ z).toArray)
  (h : ∀ w', Blk w' g 3 (List.replicate (k + min k (N - k)) x ++ z.drop (min k (N - k))).toArray -> Below g w w' -> K (a.put dst (.int .i64 (min k (N - k) : Nat))) w') :
  Oper.wp Tryz.prog { dst, op := .call { callee := .builtin .copy, args := #[d, s], argTypes := #[23, 23] }, type := ty, pos, after, guard := none } a w K Q := by
  obtain ⟨c, hs⟩ := hs
  have hrun := run_copy_row (P := Tryz.prog) w 23 23 ty 3 g k (N - k) (N - k) ⟨g, 0, none⟩ k c (List.replicate k x ++ z).toArray 3 (List.replicate (min k (N - k)) x) Tryz.underlying23 info_int1 hg
   (by rw [List.length_replicate]) (fun j v hj => by
    obtain ⟨hj1, rfl⟩ := List.getElem?_eq_some_iff.1 hj
    rw [List.length_replicate] at hj1
    rw [Addr.add_lit, Nat.zero_add, Blk.cell hg, List.getElem_replicate]
    simp only [List.getElem?_toArray]
    rw [List.getElem?_append_left (by rw [List.length_replicate]; omega), List.getElem?_replicate, if_pos (by omega)]) (by simp; omega) (fun v hv => by rw [List.eq_of_mem_replicate hv]; exact hx)
  unfold Oper.wp
  simp only [execOp, resolve, invoke, builtin, Sem.run_bind, Sem.run_pure, Result.andThen_ok, List.map_toArray, List.map_cons, List.map_nil, hd, hs, hrun]
  have e : (List.replicate k x ++ z).toArray.toList.take k ++ List.replicate (min k (N - k)) x ++ (List.replicate k x ++ z).toArray.toList.drop (k + (List.replicate (min k (N - k)) x).length) = List.replicate (k + min k (N - k)) x ++ z.drop (min k (N - k)) := by
   simp only [List.length_replicate]
   rw [List.take_append_of_le_length (by simp), List.take_of_length_le (by simp), List.drop_append, List.length_replicate, List.drop_of_length_le (by simp), List.nil_append, Nat.add_sub_cancel_left, List.replicate_append_replicate]
  rw [e, List.length_replicate]
  refine h _ (setRow_heap w g _ _ 3 _ hg) (below_setRow (Below.refl _ _) (Nat.le_refl _) _)
theorem repeat_any (x : Int) (N : Nat) (hN : N <= 1000) (b : Nat) (w : World) (hx : w.cell? ⟨b, 0, none⟩ = some (.int .i64 x)) :
  Calls Tryz.prog 102 #[.slice (some ⟨b, 0, none⟩) 1 1, .int .i64 N] w fun e w' => e = .returned (.slice (some ⟨w.heap.size, 0, none⟩) N N) /\ Blk w' w.heap.size 3 (List.replicate N (Value.int .i64 x)).toArray /\ Below w.heap.size w w' := by
  have hmul : ∀ W : World, Calls Tryz.prog 127 #[.int .u64 1, .int .u64 N] W fun e w' => e = .returned (.tuple #[.int .u64 0, .int .u64 (N : Int)]) /\ W = w' := fun W => by
   have h1 := Tryz.bits_Mul 1 N (by omega) (by omega) W
   rw [show 1 * N / 18446744073709551616 = 0 by omega, show 1 * N % 18446744073709551616 = N by omega] at h1
   exact h1.mono fun e w' ⟨h2, h3⟩ => ⟨h2, h3.symm⟩
  have HM := Lib.hid hmul; clear hmul
  have hlt := World.block_lt_of_cell? w _ hx
  have n0 : (0 : Int) <= (N : Int) := Int.natCast_nonneg _
  have n1 : (N : Int) <= 1000 := by omega
  have n2 : ¬ (N : Int) < 0 := by omega
  have hmk : ∀ W : World, (Instr.makeSlice 23 (.int .i64 (N : Int)) (.int .i64 (N : Int))).run Tryz.prog W = .ok (.slice (some ⟨W.heap.size, 0, none⟩) N N) (W.alloc (.cells (repA N (.int .i64 0)) 3)) := fun W => by
   obtain ⟨i0, hi, hz0, hz1, hz2⟩ := info_parts info_int
   have h := run_make (P := Tryz.prog) W 23 3 i0 _ Tryz.underlying23 hi hz0 .i64 .i64 N N (by omega) (Int.le_refl _) (by rw [hz2]; omega) (by omega)
   rw [h]
   simp only [Int.toNat_natCast, hz1, Nat.mul_one]
   congr 4
   unfold repA
   apply Array.ext
   ·simp [size_madeCells]
   ·intro i h1 h2
    simp [madeCells, Value.cells, Nat.mod_one]
  have HX := Lib.hid hx; clear hx
  go_enter Tryz.func102, Tryz.ntmps102
  obtain ⟨W1, hW1⟩ : ∃ W1, w.alloc (.cells (repA N (.int .i64 0)) 3) = W1 := ⟨_, rfl⟩
  have hb1 : Below w.heap.size w W1 := by rw [<- hW1]; exact (Below.refl _ _).alloc (Nat.le_refl _) _
  have hg1 : W1.heap[w.heap.size]? = some (.cells (List.replicate N (Value.int .i64 0)).toArray 3 (0, 0)) := by rw [<- hW1]; exact Blk.new _ _ _
  obtain ⟨g, hg⟩ : ∃ g, w.heap.size = g := ⟨_, rfl⟩
  have hxc : W1.cell? ⟨b, 0, none⟩ = some (.int .i64 x) := by rw [hb1.cell (p := ⟨b, 0, none⟩) hlt]; exact HX.out
  have hmk2 := hmk w
  rw [hW1, hg] at hmk2
  rw [hg] at hg1
  have HB1 := Lib.hid hb1; have HG1 := Lib.hid hg1; have HXC := Lib.hid hxc; have HGE := Lib.hid hg
  clear hW1 hb1 hg1 hxc hmk
  have hsrc : ∀ j v, (List.replicate (min 1 N) (Value.int .i64 x))[j]? = some v -> W1.cell? ((⟨b, 0, none⟩ : Addr).add j) = some v := fun j v hj => by
   obtain ⟨hj1, rfl⟩ := List.getElem?_eq_some_iff.1 hj
   rw [List.length_replicate] at hj1
   obtain rfl : j = 0 := by omega
   rw [List.getElem_replicate]
   exact HXC.out
  obtain ⟨m, hm⟩ : ∃ m, min 1 N = m := ⟨_, rfl⟩
  have hmN : m <= N := by omega
  have hmz : N = 0 \/ 0 < m := by omega
  have hcp := run_copy_row (P := Tryz.prog) W1 23 23 3 3 g 0 N N ⟨b, 0, none⟩ 1 1 (List.replicate N (Value.int .i64 0)).toArray 3 (List.replicate (min 1 N) (Value.int .i64 x)) Tryz.underlying23 info_int1 HG1.out (by rw [List.length_replicate]) hsrc (by simp; omega) (fun v hv => by rw [List.eq_of_mem_replicate hv]; rfl)
  rw [List.length_replicate, hm] at hcp
  simp only [List.take_zero, List.nil_append, Nat.zero_add, List.drop_replicate] at hcp
  obtain ⟨W2, hW2⟩ : ∃ W2, W1.setRow g (List.replicate m (Value.int .i64 x) ++ List.replicate (N - m) (Value.int .i64 0)).toArray = W2 := ⟨_, rfl⟩
  rw [hW2] at hcp
  have hg2 : Blk W2 g 3 (List.replicate m (Value.int .i64 x) ++ List.replicate (N - m) (Value.int .i64 0)).toArray := by rw [<- hW2]; exact setRow_heap W1 g _ _ 3 _ HG1.out
  have hb2 : Below w.heap.size w W2 := by rw [<- hW2]; exact below_setRow HB1.out (by rw [HGE.out]; exact Nat.le_refl _) _
  have hcp' : (Builtin.copy_ #[23, 23] 3 #[.slice (some ⟨g, 0, none⟩) N N, .slice (some ⟨b, 0, none⟩) 1 1]).run Tryz.prog W1 = .ok (.int .i64 (m : Int)) W2 := hcp
  have HG2 := Lib.hid hg2; have HB2 := Lib.hid hb2; have HMZ := Lib.hid hmz
  clear hcp hW2 hg2 hb2 hsrc hmz hm
  go_wp2_with fail
  refine (HM.out _).mono ?_
  rintro e w1 ⟨rfl, rfl⟩
  go_wp2_with fail
  go_loopg [8] (N - m) (fun gk vn wr => ∃ k : Nat, vn = .int .i64 k /\ gk = N - k /\ k <= N /\ Hid (N = 0 \/ 0 < k) /\ Hid (Blk wr g 3 (List.replicate k (Value.int .i64 x) ++ List.replicate (N - k) (Value.int .i64 0)).toArray) /\ Hid (Below w.heap.size w wr))
  case atStart => exact ⟨m, rfl, by omega, hmN, HMZ, HG2, HB2⟩
  case round =>
   clear hcp' hmk2 hmN HMZ HG2 HB2 HG1 HB1 HXC
   obtain ⟨k, rfl, hgk, hk, HZ, HG, HB⟩ := hrel
   have HGK := Lib.hid hgk; clear hgk
   have k0 : (0 : Int) <= (k : Int) := Int.natCast_nonneg _
   by_cases hlt2 : k < N
   ·have k1 : (k : Int) < (N : Int) := by omega
    have hne : ¬ k = N := by omega
    have hne2 : ¬ N = k := by omega
    have hkp : 0 < k := by rcases HZ.out with h | h <;> omega
    go_wp2_with fail
    refine region_x 9 (fun _ => True) (by kernel_rfl) ?_
    have hS : True := trivial
    refine tkx (i := 0) (v := ?_) hS ?_ ?_
    rotate_left
    ·rintro w' _
     go_simp
     try with_reducible rfl
    try simp only [Act.put, zq1, zq2, zq3, zq4, zq5, zq6]
    refine tkx (i := 1) (v := ?_) hS ?_ ?_
    rotate_left
    ·rintro w' _
     go_simp
     try with_reducible rfl
    try simp only [Act.put, zq1, zq2, zq3, zq4, zq5, zq6]
    refine tkx (i := 2) (v := ?_) hS ?_ ?_
    rotate_left
    ·rintro w' _
     go_simp
     try with_reducible rfl
    try simp only [Act.put, zq1, zq2, zq3, zq4, zq5, zq6]
    refine tkx (i := 4) (v := ?_) hS ?_ ?_
    rotate_left
    ·rintro w' _
     go_simp
     try with_reducible rfl
    try simp only [Act.put, zq1, zq2, zq3, zq4, zq5, zq6]
    refine tkx (i := 5) (v := ?_) hS ?_ ?_
    rotate_left
    ·rintro w' _
     go_simp
     try with_reducible rfl
    try simp only [Act.put, zq1, zq2, zq3, zq4, zq5, zq6]
    refine tkx (i := 3) (v := .slice (some ⟨g, k, none⟩) (N - k) (N - k)) hS ?_ ?_
    ·rintro w' _
     go_simp
     try with_reducible rfl
    try simp only [Act.put, zq1, zq2, zq3, zq4, zq5, zq6]
    refine tkx (i := 6) (v := .slice (some ⟨g, 0, none⟩) k N) hS ?_ ?_
    ·rintro w' _
     go_simp
     try with_reducible rfl
    try simp only [Act.put, zq1, zq2, zq3, zq4, zq5, zq6]
    obtain ⟨j, hj⟩ : ∃ j, min k (N - k) = j := ⟨_, rfl⟩
    refine anyX_g (i := 7) (by kernel_rfl) (by decide) rfl (by rfl) ?_
    intro K hK
    try simp only [zq1, zq2, zq3]
    refine wp_copy_self (.tmp 41) (.tmp 44) g N k (.int .i64 x) rfl (by rfl) ⟨N, by rfl⟩ hk (List.replicate (N - k) (.int .i64 0)) (by simp) HG.out ?_
    intro w' hg' hb'
    rw [hj] at hg' ⊢
    refine hK _ _ trivial ?_
    clear hK
    try simp only [Act.put, zq1, zq2, zq3, zq4, zq5, zq6]
    have e1 : IntKind.i64.wrap ((k : Int) + (j : Int)) = ((k + j : Nat) : Int) := by rw [IntWalk.i64_in _ (by omega)]; omega
    refine tkx (i := 8) (v := .int .i64 (IntKind.i64.wrap ((k : Int) + (j : Int)))) hS ?_ ?_
    ·rintro w' _
     go_simp
     try with_reducible rfl
    try simp only [Act.put, zq1, zq2, zq3, zq4, zq5, zq6]
    rw [e1]
    rw [List.drop_replicate, show N - k - j = N - (k + j) by omega] at hg'
    have HG' := Lib.hid hg'; have HB' := Lib.hid (HB.out.drew.trans (hb'.mono (Nat.le_of_eq HGE.out)))
    have hjk : 0 < j /\ k + j <= N := by omega
    clear e1 hg' hb' hj hS hne hne2
    refine anyX_last (by kernel_rfl) (by kernel_rfl) rfl rfl ?_
    try simp only [zq1, zq2, zq3]
    go_simp
    try apply_assumption
    go_wp2_with fail
    go_roundg (N - (k + j))
    case measure => have := HGK.out; omega
    case rel => exact ⟨k + j, rfl, rfl, hjk.2, Lib.hid (.inr (by omega)), HG', HB'⟩
   ·obtain rfl : k = N := by omega
    go_wp2_with fail
    go_ret
    refine ⟨congrArg (fun g' : Nat => Ending.returned (.slice (some ⟨g', 0, none⟩) k k)) HGE.out.symm, ?_, HB.out⟩
    have h := HG.out
    rw [Nat.sub_self, List.replicate_zero, List.append_nil] at h
    rw [HGE.out]
    exact h
theorem forb_any (N : Nat) (hN : N <= 1000) (w : World) :
  Calls Tryz.prog 65 #[.int .i64 N] w fun e w' => e = .returned (.slice (some ⟨w.heap.size + 1, 0, none⟩) N N) /\ Blk w' (w.heap.size + 1) 3 (List.replicate N (Value.int .i64 1152921504606846976)).toArray /\ Below w.heap.size w w' := by
  have hr := repeat_any 1152921504606846976 N hN w.heap.size (w.alloc (.cells #[.int .i64 1152921504606846976] 3)) (by simp [go_sem])
  have hz : (w.alloc (.cells #[.int .i64 1152921504606846976] 3)).heap.size = w.heap.size + 1 := by simp
  rw [hz] at hr
  have HR := Lib.hid hr; clear hr hz
  go_enter Tryz.func65, Tryz.ntmps65
  go_wp2_with fail
  refine HR.out.mono ?_
  rintro e w1 ⟨rfl, hg, hb⟩
  have HG := Lib.hid hg; have HB := Lib.hid (((Below.refl w.heap.size w).alloc (Nat.le_refl _) (.cells #[.int .i64 1152921504606846976] 3)).trans (hb.mono (by simp)))
  clear hg hb
  go_wp2_with fail
  go_ret
  exact ⟨rfl, HG.out, HB.out⟩
end Go.Proofs.YtfccnadbiglagaaGreat
