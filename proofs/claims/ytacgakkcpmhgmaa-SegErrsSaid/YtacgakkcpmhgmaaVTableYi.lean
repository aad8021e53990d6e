/- The writer's list. The writer's lists. The writer's emits. The writer's table; Save. Save. The reference's num. The reference's nums and rows. The reference's Same. The law's opening test. Laws of chapter 12: what they share; TableSums. -/
import Derived.Test.YtacgakkcpmhgmaaVTableYd
import Derived.Test.YtacgakkcpmhgmaaVMiniMa
set_option linter.unusedVariables false
set_option linter.unusedSimpArgs false
namespace Go.Proofs.Ytacgakkcpmhgmaa
open Go Go.RowKit Go.Proofs
theorem enN_eq (l : List Int) : enN l = (l.length : Int) :: l := by
 show (l.length : Int) :: l.flatMap enOne = _
 congr 1
 induction l with
 | nil => rfl
 | cons a l ih => rw [List.flatMap_cons, ih]; rfl
theorem bytesN_one (x : Int) : bytesN [x] = be8 x := by simp [bytesN]
section
variable {w w1 W W' : World} {b B : Nat} {vb vc vd : Value} {M N : List Int}
end
end Go.Proofs.Ytacgakkcpmhgmaa
namespace Go.Proofs.Ytacgakkcpmhgmaa
open Go Go.RowKit Go.Proofs
theorem flat_take_len {α : Type} (en : α -> List Int) (T : List α) (i : Nat) : ((T.take i).flatMap en).length <= (T.flatMap en).length := by
 have := congrArg List.length (congrArg (List.flatMap en) (List.take_append_drop i T))
 rw [List.flatMap_append, List.length_append] at this
 omega
theorem flat_take_one {α : Type} (en : α -> List Int) (T : List α) {i : Nat} (hi : i < T.length) (d : α) : (T.take (i + 1)).flatMap en = (T.take i).flatMap en ++ en (T.getD i d) := by
 rw [List.take_add_one, List.getElem?_eq_getElem hi, List.flatMap_append, List.getD_eq_getElem?_getD, List.getElem?_eq_getElem hi]
 simp
theorem flat_one_le {α : Type} (en : α -> List Int) (T : List α) {i : Nat} (hi : i < T.length) (d : α) : ((T.take i).flatMap en).length + (en (T.getD i d)).length <= (T.flatMap en).length := by
 have := flat_take_len en T (i + 1)
 rw [flat_take_one en T hi d, List.length_append] at this
 exact this
end Go.Proofs.Ytacgakkcpmhgmaa
namespace Go.Proofs.Ytacgakkcpmhgmaa
open Go Go.RowKit Go.Proofs
theorem readsI_vec {w : World} {b : Nat} {u : V3} {t : TypeId} (h : Blk w b t #[.int .i64 u.1, .int .i64 u.2.1, .int .i64 u.2.2]) : ReadsI w (.slice (some ⟨b, 0, none⟩) 3 3) 3 (enVec u) :=
 ⟨rfl, _, 3, rfl, Nat.le_refl _, by unfold maxLen; omega, (fun e => by cases e), fun i hi => ⟨b, 0, rfl, fun j hj => by
  rw [Nat.zero_add, h.cell]
  rcases (show j = 0 \/ j = 1 \/ j = 2 by omega) with rfl | rfl | rfl <;> rfl⟩⟩
end Go.Proofs.Ytacgakkcpmhgmaa
namespace Go.Proofs.Ytacgakkcpmhgmaa
open Go Go.RowKit Go.Proofs
structure IntsT (t : Tab) : Prop where
 c : ∀ x ∈ t.cuts, Int64 x
 l : ∀ x ∈ t.letters, Int64 x
 bn : ∀ r ∈ t.bn, ∀ x ∈ r, Int64 x
 bo : ∀ x ∈ t.bo, Int64 x
 fn : ∀ r ∈ t.fn, ∀ x ∈ r, Int64 x
 fe : ∀ r ∈ t.fe, ∀ u ∈ r, ∀ x ∈ enVec u, Int64 x
theorem RightT.intsT {t : Tab} (h : RightT t) : IntsT t := by
 have hi := h.ints
 have hn : ∀ {l : List Int} {x : Int}, x ∈ l -> x ∈ enN l := fun {l x} hx => by rw [enN_eq]; simp [hx]
 have hr : ∀ {T : List (List Int)} {r : List Int} {x : Int}, r ∈ T -> x ∈ r -> x ∈ enRows T := fun {T r x} h1 h2 => List.mem_cons_of_mem _ (List.mem_flatMap.2 ⟨r, h1, hn h2⟩)
 simp only [enT, List.mem_append] at hi
 exact ⟨fun x hx => hi x (.inl (hn hx)), fun x hx => hi x (.inr (.inl (hn hx))), fun r h1 x h2 => hi x (.inr (.inr (.inl (hr h1 h2)))), fun x hx => hi x (.inr (.inr (.inr (.inl (hn hx))))), fun r h1 x h2 => hi x (.inr (.inr (.inr (.inr (.inl (hr h1 h2)))))),
  fun r h1 u h2 x h3 => hi x (.inr (.inr (.inr (.inr (.inr (List.mem_cons_of_mem _ (List.mem_flatMap.2 ⟨r, h1, List.mem_cons_of_mem _ (List.mem_flatMap.2 ⟨u, h2, h3⟩)⟩)))))))⟩
theorem enT_parts (t : Tab) : (enT t).length = (enN t.cuts).length + (enN t.letters).length + (enRows t.bn).length + (enN t.bo).length + (enRows t.fn).length + (enEmits t.fe).length := by
 simp only [enT, List.length_append]; omega
end Go.Proofs.Ytacgakkcpmhgmaa
namespace Go.Proofs.Ytacgakkcpmhgmaa
open Go Go.RowKit Go.Proofs
theorem bodyT_byte (t : Tab) : ∀ b ∈ bodyT t, ByteI b := bytesN_byte _
end Go.Proofs.Ytacgakkcpmhgmaa
namespace Go.Proofs.Ytacgakkcpmhgmaa
open Go Go.RowKit Go.Proofs
structure GrowB (w : World) (B : Nat) (v : Value) (W : World) (u : Value) (M : List Int) : Prop where
 o : BRow W B u M
 at_ : u.ownBlock = v.ownBlock \/ ∀ k, u.ownBlock = some k -> w.heap.size <= k
 fr : Fr (fun q => v.ownBlock = some q) w W
section
variable {w w1 W W' : World} {B : Nat} {v u z : Value} {M N : List Int}
theorem GrowB.refl (h : BRow w B v M) : GrowB w B v w v M := ⟨h, .inl rfl, Fr.refl _ _⟩
theorem GrowB.trans (h : GrowB w B v W u M) (k : GrowB W B u W' z N) : GrowB w B v W' z N :=
 ⟨k.o, by
  rcases k.at_ with h1 | h1
  ·rcases h.at_ with h2 | h2
   ·exact .inl (h1.trans h2)
   ·exact .inr (fun q hq => h2 q (h1 ▸ hq))
  ·exact .inr (fun q hq => Nat.le_trans h.fr.size (h1 q hq)), h.fr.then_ k.fr (fun q hq e => by
   rcases h.at_ with h2 | h2
   ·exact h2 ▸ e
   ·have := h2 q e; omega)⟩
theorem GrowB.low (h : GrowB w B v W u M) (hB : B <= w.heap.size) (hv : ∀ k, v.ownBlock = some k -> B <= k) : Below B w W :=
 h.fr.below hB (fun k hk e => by have := hv k e; omega)
theorem GrowB.below (h : GrowB w B v W u M) (hb : Below W.heap.size W W') : GrowB w B v W' u M :=
 ⟨h.o.below hb, h.at_, h.fr.then_ (Fr.of_below (X := fun _ => False) hb) (fun _ _ e => e.elim)⟩
theorem GrowB.push {g cap : Nat} {x : Int} (h : GrowB w B v W u M) (hp : PushedE encB 5 1 B W W' u g cap M.length M x) : GrowB w B v W' (.slice (some ⟨g, 0, none⟩) (M.length + 1) cap) (M ++ [x]) :=
 h.trans ⟨by unfold BRow; rw [List.length_append]; exact hp.own, by
  rcases hp.at_ with h1 | h1
  ·exact .inl h1.symm
  ·exact .inr (fun k hk => by simp only [Value.ownBlock, Option.some.injEq] at hk; omega), Fr.of_grown hp.grow (fun k e => e)⟩
end
theorem be8_take_succ (x : Int) {i : Nat} (h : i < 8) : (be8 x).take (i + 1) = (be8 x).take i ++ [(be8 x).getD i 0] := by
 rcases (show i = 0 \/ i = 1 \/ i = 2 \/ i = 3 \/ i = 4 \/ i = 5 \/ i = 6 \/ i = 7 by omega) with rfl | rfl | rfl | rfl | rfl | rfl | rfl | rfl <;> rfl
end Go.Proofs.Ytacgakkcpmhgmaa
namespace Go.Proofs.Ytacgakkcpmhgmaa
open Go Go.RowKit Go.Proofs
theorem GrowB.base {w0 w W : World} {v u : Value} {L M : List Int} (h : BRow w w0.heap.size v L) (hb : Below w0.heap.size w0 w) (k : GrowB w w0.heap.size v W u M) : Below w0.heap.size w0 W :=
 hb.trans (k.low hb.size (fun q hq => (h.lt q hq).1))
end Go.Proofs.Ytacgakkcpmhgmaa
namespace Go.Proofs.Ytacgakkcpmhgmaa
open Go Go.RowKit Go.Proofs
theorem run_convB {w : World} {B : Nat} {v : Value} {l : List Int} (h : BRow w B v l) : (convert 23 9 v).run Try.prog w = .ok (.string (strOfNums l)) w := by
 have hlen := OwnE.len h encB_len (by decide)
 rcases OwnE.form h encB_len (by decide) with ⟨rfl, -, rfl⟩ | ⟨g, cap, rfl, -, -, -, -, hc⟩
 ·exact run_convert_bytes_nil w 23 5 Try.underlying23 Try.underlying5 0 0 _ Try.underlying9
 ·refine run_convert_bytes_arg w 23 5 Try.underlying23 Try.underlying5 g 0 _ cap l rfl (fun i hi => ?_) _ Try.underlying9
  have h2 := hc i _ (List.getElem?_eq_getElem hi) 0 _ rfl
  rw [Nat.mul_one, Nat.add_zero] at h2
  rw [h2]
  simp [List.getD, List.getElem?_eq_getElem hi]
theorem strL_inj {a b : List Int} (ha : ∀ x ∈ a, ByteI x) (hb : ∀ x ∈ b, ByteI x) : ((strOfNums a).toList == (strOfNums b).toList) = true ↔ a = b := by
 rw [beq_iff_eq, ByteArray.toList_eq, ByteArray.toList_eq]
 constructor
 ·intro h
  exact bytes_inj ha hb h
 ·rintro rfl; rfl
theorem wp_convB {w : World} {o : Oper} {a : Act} {K : Act -> World -> Prop} {Q : Exit -> Act -> World -> Prop} (hgd : o.guard = none) (x : Operand) (ho : o.op = .convert 23 9 x)
  (v : Value) (hx : a.eval x = v) {B : Nat} {l : List Int} (h : BRow w B v l) (hK : K (a.put o.dst (.string (strOfNums l))) w) : Oper.wp Try.prog o a w K Q := by
  have hr := run_convB h
  unfold Oper.wp execOp
  simp only [ho, Sem.run_bind, Sem.run_pure, Result.andThen_ok, hx, hr]
  exact hK
end Go.Proofs.Ytacgakkcpmhgmaa
namespace Go.Proofs.Ytacgakkcpmhgmaa
open Go Go.RowKit Go.Proofs
theorem load_save {w w' : World} {e : Ending} {t : Tab} (h : LoadE w w' e (saveT t)) (ht : RightT t) :
  ∃ vc vl vbn vbo vfn vfe, e = .returned (.tuple #[.agg #[vc, vl, vbn, vbo, vfn, vfe], .bool true]) /\ TabO w' w.heap.size vc vl vbn vbo vfn vfe t /\ TabR w' vc vl vbn vbo vfn vfe t := by
  rcases h with ⟨vc, vl, vbn, vbo, vfn, vfe, u, hu, rfl, h1, h2⟩ | ⟨h, -⟩
  ·have := (loadP_iff (saveT_byte t) u).1 hu
   have e := saveT_inj ht this.1 this.2
   subst e
   exact ⟨vc, vl, vbn, vbo, vfn, vfe, rfl, h1, h2⟩
  ·exact absurd ((loadP_iff (saveT_byte t) t).2 ⟨ht, rfl⟩) (h t)
theorem load_none {w w' : World} {e : Ending} {bs : List Int} (h : LoadE w w' e bs) (hn : ∀ t, RightT t -> bs ≠ saveT t) (hb : ∀ x ∈ bs, ByteI x) :
  e = .returned (.tuple #[.agg #[.slice none 0 0, .slice none 0 0, .slice none 0 0, .slice none 0 0, .slice none 0 0, .slice none 0 0], .bool false]) := by
  rcases h with ⟨vc, vl, vbn, vbo, vfn, vfe, u, hu, rfl, h1, h2⟩ | ⟨-, h⟩
  ·have := (loadP_iff hb u).1 hu
   exact absurd this.2 (hn u this.1)
  ·exact h
theorem readsI_nil0 (w : World) : ReadsI w (.slice none 0 0) 0 [] := ⟨rfl, none, 0, rfl, Nat.le_refl _, Nat.zero_le _, fun _ => rfl, fun i hi => absurd hi (Nat.not_lt_zero i)⟩
theorem noT_tab (w : World) : TabR w (.slice none 0 0) (.slice none 0 0) (.slice none 0 0) (.slice none 0 0) (.slice none 0 0) (.slice none 0 0) noT :=
 ⟨readsI_nil0 w, readsI_nil0 w, RowsI.nil w, readsI_nil0 w, RowsI.nil w, ⟨none, 0, rfl, Nat.le_refl _, Nat.zero_le _, fun _ => rfl, fun i hi => absurd hi (Nat.not_lt_zero i)⟩⟩
theorem noT_ints : IntsT noT := ⟨(fun x hx => by cases hx), (fun x hx => by cases hx), (fun x hx => by cases hx), (fun x hx => by cases hx), (fun x hx => by cases hx), (fun x hx => by cases hx)⟩
theorem rowsI_one {w : World} {b : Nat} {u : Value} {l : List Int} {t : TypeId} (h : Blk w b t #[u]) (hu : ReadsI w u l.length l) : RowsI w (.slice (some ⟨b, 0, none⟩) 1 1) [l] :=
 ⟨_, 1, rfl, Nat.le_refl _, by unfold maxLen; omega, (fun e => by cases e), fun i hi => by
  have hi1 : i < 1 := hi
  obtain rfl : i = 0 := by omega
  exact ⟨b, 0, u, rfl, h.cell 0, hu⟩⟩
theorem emitR_one {w : World} {b : Nat} {u : Value} {l : List V3} {t : TypeId} (h : Blk w b t #[u]) (hu : ReadsE encV 3 w u l.length l) : EmitR w (.slice (some ⟨b, 0, none⟩) 1 1) [l] :=
 ⟨_, 1, rfl, Nat.le_refl _, by unfold maxLen; omega, (fun e => by cases e), fun i hi => by
  have hi1 : i < 1 := hi
  obtain rfl : i = 0 := by omega
  exact ⟨b, 0, u, rfl, h.cell 0, hu⟩⟩
theorem vec_one {w : World} {b : Nat} {t : TypeId} {x y z : Int} (h : Blk w b t #[.int .i64 x, .int .i64 y, .int .i64 z]) : ReadsE encV 3 w (.slice (some ⟨b, 0, none⟩) 1 1) 1 [(x, y, z)] :=
 ⟨rfl, _, 1, rfl, Nat.le_refl _, by unfold maxLen; omega, (fun e => by cases e), fun i u hi => by
  have hi1 : i < 1 := (List.getElem?_eq_some_iff.1 hi).1
  obtain rfl : i = 0 := by omega
  simp only [List.getElem?_cons_zero, Option.some.injEq] at hi
  subst hi
  refine ⟨b, 0, rfl, fun j u hj => ?_⟩
  rw [show 0 + 0 * 3 + j = j by omega, h.cell]
  have hj3 : j < 3 := by have := (List.getElem?_eq_some_iff.1 hj).1; rwa [encV_len] at this
  rcases (show j = 0 \/ j = 1 \/ j = 2 by omega) with rfl | rfl | rfl <;> exact hj⟩
theorem Blk.newAt (w : World) {b : Nat} (hb : w.heap.size = b) (cs : Array Value) (t : TypeId) : Blk (w.alloc (.cells cs t)) b t cs := by rw [<- hb]; exact Blk.new _ _ _
theorem known_tab (w : World) : ∃ W, ((((((((w.alloc (.cells #[.int .i64 0] 3)).alloc (.cells #[.int .i64 0] 3)).alloc (.cells #[.int .i64 0] 3)).alloc (.cells #[.slice (some ⟨w.heap.size + 1 + 1, 0, none⟩) 1 1] 22)).alloc (.cells #[.int .i64 0] 3)).alloc (.cells #[.int .i64 0] 3)).alloc (.cells #[.slice (some ⟨w.heap.size + 1 + 1 + 1 + 1 + 1, 0, none⟩) 1 1] 22)).alloc (.cells #[.int .i64 1, .int .i64 2, .int .i64 3] 51)).alloc (.cells #[.slice (some ⟨w.heap.size + 1 + 1 + 1 + 1 + 1 + 1 + 1, 0, none⟩) 1 1] 36) = W /\ Below w.heap.size w W /\ W.heap.size = w.heap.size + 1 + 1 + 1 + 1 + 1 + 1 + 1 + 1 + 1 /\
  TabR W (.slice (some ⟨w.heap.size, 0, none⟩) 1 1) (.slice (some ⟨w.heap.size + 1, 0, none⟩) 1 1) (.slice (some ⟨w.heap.size + 1 + 1 + 1, 0, none⟩) 1 1) (.slice (some ⟨w.heap.size + 1 + 1 + 1 + 1, 0, none⟩) 1 1) (.slice (some ⟨w.heap.size + 1 + 1 + 1 + 1 + 1 + 1, 0, none⟩) 1 1) (.slice (some ⟨w.heap.size + 1 + 1 + 1 + 1 + 1 + 1 + 1 + 1, 0, none⟩) 1 1) knownT := by
  refine ⟨_, rfl, ?_, by simp, ?_⟩
  ·exact (((((((((Below.refl _ _).alloc (Nat.le_refl _) _).alloc (by simp) _).alloc (by simp; omega) _).alloc (by simp; omega) _).alloc (by simp; omega) _).alloc (by simp; omega) _).alloc (by simp; omega) _).alloc (by simp; omega) _).alloc (by simp; omega) _
  ·have r1 : ∀ {W : World} {b : Nat}, Blk W b 3 #[.int .i64 0] -> ReadsI W (.slice (some ⟨b, 0, none⟩) 1 1) 1 [0] := fun h => readsI_new (h.cell 0)
   refine ⟨r1 ?_, r1 ?_, rowsI_one (u := .slice (some ⟨w.heap.size + 1 + 1, 0, none⟩) 1 1) (t := 22) ?_ (r1 ?_), r1 ?_, rowsI_one (u := .slice (some ⟨w.heap.size + 1 + 1 + 1 + 1 + 1, 0, none⟩) 1 1) (t := 22) ?_ (r1 ?_), emitR_one (u := .slice (some ⟨w.heap.size + 1 + 1 + 1 + 1 + 1 + 1 + 1, 0, none⟩) 1 1) (t := 36) ?_ (vec_one (t := 51) ?_)⟩
   all_goals (repeat (first | (refine Blk.newAt _ ?_ _ _; simp; done) | refine Blk.alloc ?_ _))
end Go.Proofs.Ytacgakkcpmhgmaa
namespace Go.Proofs.Ytacgakkcpmhgmaa
open Go Go.RowKit Go.Proofs
theorem twithin2_any (x n : Int) (hn : 0 < n) (hn2 : n <= 1099511627776) (w : World) :
  Calls Try.prog 44 #[.int .i64 x, .int .i64 n] w fun e w' => e = .returned (.int .i64 (x % n)) /\ w = w' := by
  have h1 := Int.tmod_lt_of_pos x hn
  have h2 : -n < x.tmod n := by
   have := Int.tmod_lt_of_pos (-x) hn
   rw [Int.neg_tmod] at this
   omega
  have hE : x % n = if x.tmod n < 0 then x.tmod n + n else x.tmod n := by
   have h3 := Int.emod_eq_tmod (a := x) (b := n)
   have hd : (n.natAbs : Int) = n := Int.natAbs_of_nonneg (Int.le_of_lt hn)
   have h4 := Int.emod_nonneg x (Int.ne_of_gt hn)
   have h5 := Int.emod_lt_of_pos x hn
   have e1 := Int.emod_add_mul_ediv x n
   have e2 := Int.tmod_add_mul_tdiv x n
   split
   ·rename_i hlt
    have : (x % n - (x.tmod n + n)) = n * (x.tdiv n - x / n - 1) := by
     rw [Int.mul_sub, Int.mul_sub, Int.mul_one]; omega
    have hq : x.tdiv n - x / n - 1 = 0 := by
     apply Classical.byContradiction
     intro hne
     rcases Int.lt_or_gt_of_ne hne with h | h
     ·have : n * (x.tdiv n - x / n - 1) <= n * (-1) := Int.mul_le_mul_of_nonneg_left (by omega) (by omega)
      omega
     ·have : n * 1 <= n * (x.tdiv n - x / n - 1) := Int.mul_le_mul_of_nonneg_left (by omega) (by omega)
      omega
    rw [hq] at this
    omega
   ·rename_i hge
    have : (x % n - x.tmod n) = n * (x.tdiv n - x / n) := by
     rw [Int.mul_sub]; omega
    have hq : x.tdiv n - x / n = 0 := by
     apply Classical.byContradiction
     intro hne
     rcases Int.lt_or_gt_of_ne hne with h | h
     ·have : n * (x.tdiv n - x / n) <= n * (-1) := Int.mul_le_mul_of_nonneg_left (by omega) (by omega)
      omega
     ·have : n * 1 <= n * (x.tdiv n - x / n) := Int.mul_le_mul_of_nonneg_left (by omega) (by omega)
      omega
    rw [hq] at this
    omega
  have E := Lib.hid hE
  have hne : ¬ n = 0 := by omega
  clear hE
  go_enter Try.func44, Try.ntmps44
  by_cases hlt : x.tmod n < 0
  ·go_wp2_with fail
   go_ret
   exact ⟨by rw [E.out, if_pos hlt]; rfl, rfl⟩
  ·go_wp2_with fail
   go_ret
   exact ⟨by rw [E.out, if_neg (by omega)]; rfl, rfl⟩
theorem IsRow.bytes {w : World} {a : Option Addr} {len cap : Nat} {z : List Int} (h : IsRow .u8 w a len cap z) : BytesR w (.slice a len cap) len (z.take len) := by
 have hle := h.len_le
 have hwf : ∀ x ∈ z.take len, ByteI x := by
  intro x hx
  rcases h with ⟨rfl, rfl, rfl, rfl⟩ | ⟨y, rfl, hl, hm, hz, hc, hw⟩
  ·cases hx
  ·have := hw x (List.mem_of_mem_take hx)
   simp [Lit.wf] at this
   have e1 : IntKind.u8.min = 0 := rfl
   have e2 : IntKind.u8.max = 255 := rfl
   rw [e1, e2] at this
   unfold ByteI
   omega
 refine ⟨⟨by rw [List.length_take]; omega, a, cap, rfl, ?_, ?_, ?_, fun i x hi => ?_⟩, hwf⟩
 ·rcases h with ⟨rfl, rfl, rfl, rfl⟩ | ⟨y, rfl, hl, hm, _⟩
  ·exact Nat.le_refl _
  ·exact hl
 ·rcases h with ⟨rfl, rfl, rfl, rfl⟩ | ⟨y, rfl, hl, hm, _⟩
  ·exact Nat.zero_le _
  ·exact hm
 ·intro e
  rcases h with ⟨rfl, rfl, rfl, rfl⟩ | ⟨y, rfl, hl, hm, _⟩
  ·rfl
  ·cases e
 ·have hil : i < len := by have := (List.getElem?_eq_some_iff.1 hi).1; rw [List.length_take] at this; omega
  obtain ⟨b, off, e, -, hc, -⟩ := h.at i hil
  refine ⟨b, off, e, fun j u hj => ?_⟩
  match j, hj with
  | 0, hj =>
    have hu : .int .u8 x = u := by simpa [encB] using hj
    rw [Nat.mul_one, Nat.add_zero, hc i hil, <- hu]
    have : z.getD i 0 = x := by
     rw [List.getElem?_take, if_pos hil] at hi
     rw [List.getD_eq_getElem?_getD, hi]; rfl
    rw [this]
  | j + 1, hj => simp [encB] at hj
theorem BRow.none_ (w : World) : BRow (w.alloc (.cells #[] 5)) w.heap.size (.slice (some ⟨w.heap.size, 0, none⟩) 0 0) [] :=
 ⟨rfl, .inr ⟨w.heap.size, 0, #[], rfl, Nat.le_refl _, heap_alloc_new w _, by simp [maxLen]⟩⟩
theorem flatB (l : List Int) : l.flatMap encB = l.map (Value.int .u8) := by
 induction l with
 | nil => rfl
 | cons a l ih => rw [List.flatMap_cons, ih]; rfl
theorem BRow.set_ {w : World} {B g cap : Nat} {l : List Int} (h : BRow w B (.slice (some ⟨g, 0, none⟩) l.length cap) l) (k : Nat) (y : Int) : BRow (w.setCell ⟨g, k, none⟩ (.int .u8 y)) B (.slice (some ⟨g, 0, none⟩) l.length cap) (l.set k y) := by
 have := (World.ownsRow.stored h k (.int .u8 y)).1
 unfold BRow OwnE
 rw [List.length_set, flatB, List.map_set, <- flatB]
 exact this
theorem BRow.cellAt {w : World} {B g cap k : Nat} {l : List Int} (h : BRow w B (.slice (some ⟨g, 0, none⟩) l.length cap) l) (hk : k < l.length) : w.cell? ⟨g, k, none⟩ = some (.int .u8 (l.getD k 0)) := by
 have := World.ownsRow.cellAt h k (by omega)
 rw [this, flatB, List.getElem?_map, List.getElem?_eq_getElem hk, List.getD_eq_getElem?_getD, List.getElem?_eq_getElem hk]
 rfl
theorem BRow.frozenAt {w : World} {B g cap : Nat} {l : List Int} (h : BRow w B (.slice (some ⟨g, 0, none⟩) l.length cap) l) (k : Nat) : w.frozen? ⟨g, k, none⟩ = false := World.ownsRow.frozenAt h k
theorem sumI_set {l : List Int} {k : Nat} {y : Int} (hl : ∀ x ∈ l, ByteI x) (hy : ByteI y) (hk : k < l.length) : sumI (l.set k y) = sumI l ↔ y = l.getD k 0 := by
 have e1 : l = l.take k ++ l.getD k 0 :: l.drop (k + 1) := by
  rw [List.getD_eq_getElem?_getD, List.getElem?_eq_getElem hk]
  simp
 have e2 : l.set k y = l.take k ++ y :: l.drop (k + 1) := by
  rw [List.set_eq_take_append_cons_drop, if_pos hk]
 rw [e2]
 conv => lhs; rhs; rw [e1]
 rw [sumI_turn _ _ hy (hl _ (getD_mem hk))]
end Go.Proofs.Ytacgakkcpmhgmaa
