/- The reader by what is left: list. The reader by what is left: lists. What the reader takes is what the plain reader reads. The reader by what is left: vecs. The reader by what is left: emits. What the reader takes is what the plain reader reads: vecs, emits. The reader by what is left: the whole table. The reader's whole table is the plain reader's. A table in blocks of its own is a table. -/
import Derived.Test.YtacgakkcpmhgmaaVTableK
import Derived.Test.YtacgakkcpmhgmaaVMiniD
import Derived.Test.YtacgakkcpmhgmaaVMiniSp
import Derived.Test.YtacgakkcpmhgmaaVLastY
set_option linter.unusedVariables false
set_option linter.unusedSimpArgs false
set_option maxRecDepth 100000
namespace Go.Proofs.Ytacgakkcpmhgmaa
open Go Go.RowKit Go.Proofs
def listN (rest : Option (List Int)) : List Int × Option (List Int) :=
 match (manyN rest).2 with
 | some L => (L.take (manyN rest).1.toNat, some (L.drop (manyN rest).1.toNat))
 | none => ([], none)
theorem manyN_some {rest : Option (List Int)} {L : List Int} (h : (manyN rest).2 = some L) : ∃ N : Nat, (manyN rest).1 = (N : Int) /\ N <= L.length := by
 unfold manyN at h ⊢
 split at h
 ·rename_i hc
  rw [if_pos hc]
  rw [h] at hc
  simp only [leftN] at hc
  exact ⟨(takeN rest).1.toNat, by omega, by omega⟩
 ·cases h
theorem manyN_none {rest : Option (List Int)} (h : (manyN rest).2 = none) : (manyN rest).1 = 0 := by
 unfold manyN at h ⊢
 split
 ·rename_i hc
  rw [if_pos hc] at h
  rw [h] at hc
  simp only [leftN] at hc
  omega
 ·rfl
theorem mkI_big (N : Nat) (hN : N <= 1000000) (W : World) : (Instr.makeSlice 22 (.int .i64 (N : Int)) (.int .i64 (N : Int))).run Try.prog W = .ok (.slice (some ⟨W.heap.size, 0, none⟩) N N) (W.alloc (.cells (repA N (.int .i64 0)) 3)) := by
 obtain ⟨i0, hi, hz0, hz1, hz2⟩ := info_parts info_int
 have h := run_make (P := Try.prog) W 22 3 i0 _ Try.underlying22 hi hz0 .i64 .i64 N N (by omega) (Int.le_refl _) (by rw [hz2]; omega) (by omega)
 rw [h]
 simp only [Int.toNat_natCast, hz1, Nat.mul_one]
 congr 4
 unfold repA
 apply Array.ext
 ·simp [size_madeCells]
 ·intro i h1 h2
  simp [madeCells, Value.cells, Nat.mod_one]
theorem repA_len (N : Nat) (v : Value) : (repA N v).size = N := by unfold repA; rw [List.size_toArray, List.length_replicate]
theorem repA_list (N : Nat) (v : Value) : (repA N v).toList = List.replicate N v := rfl
theorem own_rep (N : Nat) (hN : N <= 1000000) (w : World) : Own (w.alloc (.cells (repA N (.int .i64 0)) 3)) w.heap.size (sl w.heap.size N N) N (List.replicate N 0) := by
 have h1 : ((List.replicate N (0 : Int)).map (Value.int .i64)).length = N * 1 := by rw [List.length_map, List.length_replicate, Nat.mul_one]
 have h2 : (repA N (.int .i64 0)).toList.take (N * 1) = (List.replicate N (0 : Int)).map (Value.int .i64) := by
  rw [repA_list, Nat.mul_one, List.map_replicate]
  exact List.take_of_length_le (Nat.le_of_eq List.length_replicate)
 have h3 : N <= maxLen := by unfold maxLen; omega
 have h4 := repA_len N (.int .i64 0)
 generalize repA N (.int .i64 0) = cs at *
 exact ⟨h1, .inr ⟨w.heap.size, N, cs, rfl, Nat.le_refl _, heap_alloc_new w _, Nat.le_refl _, h3, by rw [h4, Nat.mul_one], h2⟩⟩
section
variable {w w' : World} {B b g N c n cap i : Nat} {A : Option Addr} {bs xs : List Int} {y : Int} {rest : Option (List Int)}
end
end Go.Proofs.Ytacgakkcpmhgmaa
namespace Go.Proofs.Ytacgakkcpmhgmaa
open Go Go.RowKit Go.Proofs
theorem made_repT (N : Nat) (z : Value) : madeCells #[z] N = repA N z := by
 unfold repA
 apply Array.ext
 ·simp [size_madeCells]
 ·intro i h1 h2
  simp [madeCells, Nat.mod_one]
theorem info_rowT : (Try.prog.info? 22).map (fun i => (i.zero, i.size, i.bytes)) = some (some (.slice none 0 0), 1, 24) := by kernel_rfl
theorem mkLL_big (N : Nat) (hN : N <= 1000000) (W : World) : (Instr.makeSlice 25 (.int .i64 (N : Int)) (.int .i64 (N : Int))).run Try.prog W = .ok (.slice (some ⟨W.heap.size, 0, none⟩) N N) (W.alloc (.cells (repA N (.slice none 0 0)) 22)) := by
 obtain ⟨i0, hi, hz0, hz1, hz2⟩ := info_parts info_rowT
 have h := run_make (P := Try.prog) W 25 22 i0 _ Try.underlying25 hi hz0 .i64 .i64 N N (by omega) (Int.le_refl _) (by rw [hz2]; omega) (by omega)
 rw [h]
 simp only [Int.toNat_natCast, hz1, Nat.mul_one]
 have e : madeCells (Value.cells (.slice none 0 0)) N = repA N (.slice none 0 0) := made_repT N (.slice none 0 0)
 rw [e]
def valsA (k : Nat) (f : Nat -> Value) : Array Value := ((List.range k).map f).toArray
theorem valsA_rep (k : Nat) (v : Value) : repA k v = valsA k (fun _ => v) := by
 unfold valsA repA
 apply Array.ext
 ·simp
 ·intro i h1 h2; simp
theorem valsA_set (k : Nat) (f : Nat -> Value) (i : Nat) (u : Value) : (valsA k f).setIfInBounds i u = valsA k (fun y => if y = i then u else f y) := by
 unfold valsA
 apply Array.ext
 ·simp
 ·intro j h1 h2
  simp only [Array.size_setIfInBounds, List.size_toArray, List.length_map, List.length_range] at h1
  by_cases e : i = j
  ·subst e; simp [Array.getElem_setIfInBounds]
  ·have e' : ¬ j = i := fun q => e q.symm
   simp [Array.getElem_setIfInBounds, e, e']
theorem valsA_at {k : Nat} {f : Nat -> Value} {i : Nat} (h : i < k) : (valsA k f)[i]? = some (f i) := by simp [valsA, h]
section
variable {w w' V : World} {B : Nat}
theorem blkRow {g k : Nat} {t : TypeId} {f : Nat -> Value} (h : Blk w g t (valsA k f)) (hB : B <= g) (hk : k <= 1000) : w.ownsRow B t 1 (sl g k k) k ((List.range k).map f) :=
 ⟨by simp, .inr ⟨g, k, valsA k f, rfl, hB, h, Nat.le_refl _, by unfold maxLen; omega, by simp [valsA], by simp [valsA, List.take_of_length_le]⟩⟩
theorem ownSet {e t : TypeId} {sz n g i : Nat} {v u : Value} {xs : List Value} {cs : Array Value} (h : w.ownsRow B e sz v n xs) (hg : Blk w g t cs) (hne : t ≠ e) : (w.setCell ⟨g, i, none⟩ u).ownsRow B e sz v n xs :=
 rowFr h ((Fr.refl (fun q => q = g) w).set_ (p := ⟨g, i, none⟩) (.inl rfl) u) (fun q hq e => by subst e; exact blk_ne hg h hne hq)
theorem blkSet {g g' i : Nat} {t t' : TypeId} {cs cs' : Array Value} {u : Value} (h : Blk w g' t' cs') (hg : Blk w g t cs) (hne : t ≠ t') : Blk (w.setCell ⟨g, i, none⟩ u) g' t' cs' :=
 h.far (p := ⟨g, i, none⟩) (fun e => blk_ne2 hg h hne e.symm) u
theorem BytesR.vals {v : Value} {n g k i : Nat} {l : List Int} {t : TypeId} {f : Nat -> Value} {u : Value} (h : BytesR w v n l) (hg : Blk w g t (valsA k f)) (hf : ∀ j, ∃ a m c, f j = .slice a m c) : BytesR (w.setCell ⟨g, i, none⟩ u) v n l :=
 ⟨h.1.far ((Fr.refl (fun q => q = g) w).set_ (p := ⟨g, i, none⟩) (.inl rfl) _) hg (fun z _ j u hj q hq => by
  have hu : u = .int .u8 z := by
   match j, hj with
   | 0, hj => simpa [encB] using hj.symm
   | j + 1, hj => simp [encB] at hj
  subst hu
  by_cases hqk : q < k
  ·rw [valsA_at hqk] at hq
   obtain ⟨a, m, c, e⟩ := hf q
   rw [e] at hq
   cases hq
  ·have : (valsA k f)[q]? = none := Array.getElem?_eq_none (by simp [valsA]; omega)
   rw [this] at hq
   cases hq), h.2⟩
end
def itR (rest : Option (List Int)) : Nat -> Option (List Int)
 | 0 => (manyN rest).2
 | i + 1 => (listN (itR rest i)).2
def listsN (rest : Option (List Int)) : List (List Int) × Option (List Int) := ((List.range (manyN rest).1.toNat).map fun i => (listN (itR rest i)).1, itR rest (manyN rest).1.toNat)
theorem manyN_nat (rest : Option (List Int)) : ∃ N : Nat, (manyN rest).1 = (N : Int) := by
 cases hm : (manyN rest).2 with
 | none => exact ⟨0, manyN_none hm⟩
 | some L => obtain ⟨N, e, _⟩ := manyN_some hm; exact ⟨N, e⟩
end Go.Proofs.Ytacgakkcpmhgmaa
namespace Go.Proofs.Ytacgakkcpmhgmaa
open Go Go.RowKit Go.Proofs
theorem rdK_one : ∀ (k : Nat) (r : List Int), k <= r.length -> rdK rdOne k r = some (r.take k, r.drop k)
 | 0, r, _ => rfl
 | k + 1, [], h => by simp at h
 | k + 1, x :: r, h => by
   have := rdK_one k r (by simpa using h)
   simp only [rdK, rdOne, this, List.take_succ_cons, List.drop_succ_cons]
theorem manyN_none' : manyN none = (0, none) := rfl
theorem listN_none : listN none = ([], none) := rfl
theorem manyN_nil : manyN (some []) = (0, none) := rfl
theorem manyN_cons (n : Int) (r : List Int) : manyN (some (n :: r)) = if 0 <= n /\ n <= (r.length : Int) then (n, some r) else (0, none) := rfl
theorem listN_rd (L : List Int) : (∃ l r, rdN L = some (l, r) /\ listN (some L) = (l, some r)) \/ (rdN L = none /\ (listN (some L)).2 = none) := by
 cases L with
 | nil => exact .inr ⟨rfl, rfl⟩
 | cons n r =>
   by_cases h : 0 <= n /\ n <= (r.length : Int)
   ·refine .inl ⟨r.take n.toNat, r.drop n.toNat, ?_, ?_⟩
    ·simp only [rdN, rdC]
     rw [if_pos ⟨h.1, h.2, fun m hm => by cases hm⟩]
     exact rdK_one _ _ (by omega)
    ·unfold listN
     rw [manyN_cons, if_pos h]
   ·refine .inr ⟨?_, ?_⟩
    ·simp only [rdN, rdC]
     rw [if_neg (fun e => h ⟨e.1, e.2.1⟩)]
    ·unfold listN
     rw [manyN_cons, if_neg h]
theorem itR_none {rest : Option (List Int)} {i : Nat} (h : itR rest i = none) : ∀ j, i <= j -> itR rest j = none := by
 intro j
 induction j with
 | zero => intro hj; have : i = 0 := by omega
           subst this; exact h
 | succ j ih =>
   intro hj
   by_cases e : i = j + 1
   ·subst e; exact h
   ·have := ih (by omega)
    simp only [itR, this]
    rfl
theorem listsN_rd (L : List Int) : (∃ l r, rdRows L = some (l, r) /\ listsN (some L) = (l, some r)) \/ (rdRows L = none /\ (listsN (some L)).2 = none) := by
 cases L with
 | nil => exact .inr ⟨rfl, rfl⟩
 | cons n r =>
   by_cases h : 0 <= n /\ n <= (r.length : Int)
   ·have e0 : manyN (some (n :: r)) = (n, some r) := by rw [manyN_cons, if_pos h]
    have key : ∀ (k i : Nat) (q : List Int), itR (some (n :: r)) i = some q ->
      (∃ l q', rdK rdN k q = some (l, q') /\ itR (some (n :: r)) (i + k) = some q' /\ (List.range k).map (fun j => (listN (itR (some (n :: r)) (i + j))).1) = l) \/ (rdK rdN k q = none /\ itR (some (n :: r)) (i + k) = none) := by
      intro k
      induction k with
      | zero => intro i q hq; exact .inl ⟨[], q, rfl, hq, rfl⟩
      | succ k ih =>
        intro i q hq
        rcases listN_rd q with ⟨l, r1, h1, h2⟩ | ⟨h1, h2⟩
        ·have hi : itR (some (n :: r)) (i + 1) = some r1 := by simp only [itR, hq, h2]
         rcases ih (i + 1) r1 hi with ⟨l2, q', h3, h4, h5⟩ | ⟨h3, h4⟩
         ·refine .inl ⟨l :: l2, q', ?_, ?_, ?_⟩
          ·simp only [rdK, h1, h3]
          ·rw [show i + (k + 1) = i + 1 + k by omega]; exact h4
          ·rw [List.range_succ_eq_map, List.map_cons, List.map_map]
           rw [show i + 0 = i from rfl, hq, h2]
           simp only [List.cons.injEq, true_and]
           rw [<- h5]
           refine List.map_congr_left fun j _ => ?_
           simp only [Function.comp_apply]
           rw [show i + (j + 1) = i + 1 + j by omega]
         ·refine .inr ⟨?_, ?_⟩
          ·simp only [rdK, h1, h3]
          ·rw [show i + (k + 1) = i + 1 + k by omega]; exact h4
        ·have hi : itR (some (n :: r)) (i + 1) = none := by simp only [itR, hq, h2]
         exact .inr ⟨by simp only [rdK, h1], itR_none hi _ (by omega)⟩
    have h0 : itR (some (n :: r)) 0 = some r := by simp only [itR, e0]
    have hrd : rdRows (n :: r) = rdK rdN n.toNat r := by
     simp only [rdRows, rdC]
     rw [if_pos ⟨h.1, h.2, fun m hm => by cases hm⟩]
    rcases key n.toNat 0 r h0 with ⟨l, q', h1, h2, h3⟩ | ⟨h1, h2⟩
    ·refine .inl ⟨l, q', by rw [hrd]; exact h1, ?_⟩
     unfold listsN
     rw [e0]
     simp only [Nat.zero_add] at h2 h3
     rw [h2, h3]
    ·refine .inr ⟨by rw [hrd]; exact h1, ?_⟩
     unfold listsN
     rw [e0]
     simp only [Nat.zero_add] at h2
     exact h2
   ·refine .inr ⟨?_, ?_⟩
    ·simp only [rdRows, rdC]
     rw [if_neg (fun e => h ⟨e.1, e.2.1⟩)]
    ·unfold listsN
     rw [manyN_cons, if_neg h]
     exact itR_none (i := 0) (by simp only [itR, manyN_cons, if_neg h]) _ (Nat.zero_le _)
end Go.Proofs.Ytacgakkcpmhgmaa
namespace Go.Proofs.Ytacgakkcpmhgmaa
open Go Go.RowKit Go.Proofs
def itV (rest : Option (List Int)) : Nat -> Option (List Int)
 | 0 => (manyN rest).2
 | i + 1 => (takeN (takeN (takeN (itV rest i)).2).2).2
def vecV (rest : Option (List Int)) (i : Nat) : V3 := ((takeN (itV rest i)).1, (takeN (takeN (itV rest i)).2).1, (takeN (takeN (takeN (itV rest i)).2).2).1)
def vecsN (rest : Option (List Int)) : List V3 × Option (List Int) := ((List.range (manyN rest).1.toNat).map (vecV rest), itV rest (manyN rest).1.toNat)
def vcells (N : Nat) (f : Nat -> V3) : Array Value := (((List.range N).map f).flatMap encV).toArray
theorem vcells_size (N : Nat) (f : Nat -> V3) : (vcells N f).size = N * 3 := by unfold vcells; rw [List.size_toArray, flatE_len encV 3 encV_len]; simp
theorem vcells_at {N : Nat} (f : Nat -> V3) {i c : Nat} (hi : i < N) (hc : c < 3) : (vcells N f)[i * 3 + c]? = (encV (f i))[c]? := by
 unfold vcells
 rw [List.getElem?_toArray, flatE_at encV 3 encV_len _ i c (by simpa using hi) hc]
 simp
theorem vcell_some {N : Nat} (f : Nat -> V3) {i : Nat} (hi : i < N) {c : Nat} (hc : c < 3) : ∃ y, (vcells N f)[i * 3 + c]? = some (.int .i64 y) := by
 rw [vcells_at f hi hc]
 rcases (show c = 0 \/ c = 1 \/ c = 2 by omega) with rfl | rfl | rfl <;> exact ⟨_, rfl⟩
theorem vcells_set {N : Nat} (f : Nat -> V3) {i : Nat} (hi : i < N) (x y z : Int) :
  (((vcells N f).setIfInBounds (i * 3) (.int .i64 x)).setIfInBounds (i * 3 + 1) (.int .i64 y)).setIfInBounds (i * 3 + 2) (.int .i64 z) = vcells N (fun j => if j = i then (x, y, z) else f j) := by
  apply Array.ext
  ·simp [vcells_size]
  ·intro k h1 h2
   rw [vcells_size] at h2
   have hq : k = k / 3 * 3 + k % 3 := by omega
   have hqN : k / 3 < N := by omega
   have e1 := vcells_at f hqN (c := k % 3) (by omega)
   have e2 := vcells_at (fun j => if j = i then (x, y, z) else f j) hqN (c := k % 3) (by omega)
   rw [<- hq] at e1 e2
   have hk1 : k < (vcells N f).size := by rw [vcells_size]; exact h2
   have hk2 : k < (vcells N (fun j => if j = i then (x, y, z) else f j)).size := by rw [vcells_size]; exact h2
   rw [Array.getElem?_eq_getElem hk1] at e1
   rw [Array.getElem?_eq_getElem hk2] at e2
   apply Option.some.inj
   rw [e2]
   rw [Array.getElem_setIfInBounds, Array.getElem_setIfInBounds, Array.getElem_setIfInBounds]
   by_cases e : k / 3 = i
   ·subst e
    simp only [if_pos]
    rcases (show k % 3 = 0 \/ k % 3 = 1 \/ k % 3 = 2 by omega) with h | h | h
    ·rw [if_neg (by omega), if_neg (by omega), if_pos (by omega), h]; rfl
    ·rw [if_neg (by omega), if_pos (by omega), h]; rfl
    ·rw [if_pos (by omega), h]; rfl
   ·rw [if_neg e, if_neg (by omega), if_neg (by omega), if_neg (by omega)]
    exact e1
   all_goals
    simp only [Array.size_setIfInBounds]
    exact hk1
section
variable {w : World} {b g N n cap i : Nat} {A : Option Addr} {bs : List Int} {rest : Option (List Int)} {f : Nat -> V3}
theorem vset (h : Blk w g 51 (vcells N f)) (hi : i < N) (x y z : Int) : Blk (((w.setCell ⟨g, i * 3, none⟩ (.int .i64 x)).setCell ⟨g, i * 3 + 1, none⟩ (.int .i64 y)).setCell ⟨g, i * 3 + 2, none⟩ (.int .i64 z)) g 51 (vcells N (fun j => if j = i then (x, y, z) else f j)) := by
 rw [<- vcells_set f hi x y z]
 exact ((h.set_ _ _).set_ _ _).set_ _ _
theorem vcells_int (q : Nat) (u : Value) (h : (vcells N f)[q]? = some u) : ∃ y, u = Value.int .i64 y := by
 have hq : q < N * 3 := by
  rcases Nat.lt_or_ge q (N * 3) with r | r
  ·exact r
  ·rw [Array.getElem?_eq_none (by rw [vcells_size]; exact r)] at h; cases h
 obtain ⟨y, e⟩ := vcell_some (N := N) f (i := q / 3) (by omega) (c := q % 3) (by omega)
 rw [show q / 3 * 3 + q % 3 = q by omega, h] at e
 injection e with e
 exact ⟨y, e⟩
theorem set_int {cs : Array Value} (h : ∀ (q : Nat) (u : Value), cs[q]? = some u -> ∃ y, u = Value.int .i64 y) (k : Nat) (x : Int) : ∀ (q : Nat) (u : Value), (cs.setIfInBounds k (.int .i64 x))[q]? = some u -> ∃ y, u = Value.int .i64 y := by
 intro q u hq
 rw [Array.getElem?_setIfInBounds] at hq
 split at hq
 ·split at hq
  ·injection hq with hq; exact ⟨x, hq.symm⟩
  ·cases hq
 ·exact h q u hq
end
theorem info_vecT : (Try.prog.info? 51).map (fun i => (i.zero, i.size, i.bytes)) = some (some (.agg #[.int .i64 0, .int .i64 0, .int .i64 0]), 3, 24) := by kernel_rfl
theorem made_vcells (N : Nat) : madeCells #[.int .i64 0, .int .i64 0, .int .i64 0] (N * 3) = vcells N (fun _ => (0, 0, 0)) := by
 apply Array.ext
 ·rw [size_madeCells, vcells_size]
 ·intro k h1 h2
  rw [vcells_size] at h2
  obtain ⟨y, e⟩ := vcell_some (N := N) (fun _ => ((0 : Int), (0 : Int), (0 : Int))) (i := k / 3) (by omega) (c := k % 3) (by omega)
  have e2 := vcells_at (N := N) (fun _ => ((0 : Int), (0 : Int), (0 : Int))) (i := k / 3) (by omega) (c := k % 3) (by omega)
  rw [show k / 3 * 3 + k % 3 = k by omega] at e2
  have hk2 : k < (vcells N (fun _ => ((0 : Int), (0 : Int), (0 : Int)))).size := by rw [vcells_size]; exact h2
  rw [Array.getElem?_eq_getElem hk2] at e2
  apply Option.some.inj
  rw [e2]
  rcases (show k % 3 = 0 \/ k % 3 = 1 \/ k % 3 = 2 by omega) with h | h | h <;> simp [madeCells, h, encV]
theorem mkV_big (N : Nat) (hN : N <= 1000000) (W : World) : (Instr.makeSlice 36 (.int .i64 (N : Int)) (.int .i64 (N : Int))).run Try.prog W = .ok (.slice (some ⟨W.heap.size, 0, none⟩) N N) (W.alloc (.cells (vcells N (fun _ => (0, 0, 0))) 51)) := by
 obtain ⟨i0, hi, hz0, hz1, hz2⟩ := info_parts info_vecT
 have h := run_make (P := Try.prog) W 36 51 i0 _ Try.underlying36 hi hz0 .i64 .i64 N N (by omega) (Int.le_refl _) (by rw [hz2]; omega) (by omega)
 rw [h, hz1]
 simp only [Int.toNat_natCast]
 rw [show madeCells (Value.cells (.agg #[.int .i64 0, .int .i64 0, .int .i64 0])) (N * 3) = vcells N (fun _ => (0, 0, 0)) from made_vcells N]
end Go.Proofs.Ytacgakkcpmhgmaa
namespace Go.Proofs.Ytacgakkcpmhgmaa
open Go Go.RowKit Go.Proofs
def VecRow (w : World) (B : Nat) (v : Value) (l : List V3) : Prop := ∃ g f, v = sl g l.length l.length /\ B <= g /\ Blk w g 51 (vcells l.length f) /\ ∀ q, q < l.length -> f q = l.getD q (0, 0, 0)
section
variable {w w' : World} {B b g : Nat} {v : Value} {l : List V3}
theorem VecRow.fr (h : VecRow w B v l) (hf : Fr (fun q => q = b) w w') (hb : b < B) : VecRow w' B v l := by
 obtain ⟨g, f, e, hg, hx, hv⟩ := h
 exact ⟨g, f, e, hg, hf.blk hx (fun e => by omega), hv⟩
theorem VecRow.set_ {t : TypeId} {cs : Array Value} {i : Nat} {u : Value} (h : VecRow w B v l) (hg : Blk w g t cs) (ht : t ≠ 51) : VecRow (w.setCell ⟨g, i, none⟩ u) B v l := by
 obtain ⟨g', f, e, hg', hx, hv⟩ := h
 exact ⟨g', f, e, hg', blkSet hx hg ht, hv⟩
end
theorem vecsN_at {rest : Option (List Int)} {q : Nat} (h : q < (vecsN rest).1.length) : (vecsN rest).1.getD q (0, 0, 0) = vecV rest q := by
 have h2 : q < (manyN rest).1.toNat := by simpa [vecsN] using h
 simp [vecsN, List.getD_eq_getElem?_getD, h2]
def itE (rest : Option (List Int)) : Nat -> Option (List Int)
 | 0 => (manyN rest).2
 | i + 1 => (vecsN (itE rest i)).2
def emitsN (rest : Option (List Int)) : List (List V3) × Option (List Int) := ((List.range (manyN rest).1.toNat).map fun i => (vecsN (itE rest i)).1, itE rest (manyN rest).1.toNat)
theorem info_vrowT : (Try.prog.info? 36).map (fun i => (i.zero, i.size, i.bytes)) = some (some (.slice none 0 0), 1, 24) := by kernel_rfl
theorem mkEE_big (N : Nat) (hN : N <= 1000000) (W : World) : (Instr.makeSlice 28 (.int .i64 (N : Int)) (.int .i64 (N : Int))).run Try.prog W = .ok (.slice (some ⟨W.heap.size, 0, none⟩) N N) (W.alloc (.cells (repA N (.slice none 0 0)) 36)) := by
 obtain ⟨i0, hi, hz0, hz1, hz2⟩ := info_parts info_vrowT
 have h := run_make (P := Try.prog) W 28 36 i0 _ Try.underlying28 hi hz0 .i64 .i64 N N (by omega) (Int.le_refl _) (by rw [hz2]; omega) (by omega)
 rw [h]
 simp only [Int.toNat_natCast, hz1, Nat.mul_one]
 have e : madeCells (Value.cells (.slice none 0 0)) N = repA N (.slice none 0 0) := made_repT N (.slice none 0 0)
 rw [e]
end Go.Proofs.Ytacgakkcpmhgmaa
namespace Go.Proofs.Ytacgakkcpmhgmaa
open Go Go.RowKit Go.Proofs
theorem steps_rd {β : Type} {rd : List Int -> Option (β × List Int)} {it : Nat -> Option (List Int)} {val : Nat -> β}
  (hs : ∀ i q, it i = some q -> (∃ l r, rd q = some (l, r) /\ it (i + 1) = some r /\ val i = l) \/ (rd q = none /\ it (i + 1) = none))
  (hn : ∀ i, it i = none -> it (i + 1) = none) :
  ∀ (k i : Nat) (q : List Int), it i = some q -> (∃ l q', rdK rd k q = some (l, q') /\ it (i + k) = some q' /\ (List.range k).map (fun j => val (i + j)) = l) \/ (rdK rd k q = none /\ it (i + k) = none) := by
  have hnn : ∀ k i, it i = none -> it (i + k) = none := by
   intro k
   induction k with
   | zero => intro i h; exact h
   | succ k ih => intro i h; exact hn _ (ih i h)
  intro k
  induction k with
  | zero => intro i q hq; exact .inl ⟨[], q, rfl, hq, rfl⟩
  | succ k ih =>
    intro i q hq
    rcases hs i q hq with ⟨l, r1, h1, hi, hv⟩ | ⟨h1, hi⟩
    ·rcases ih (i + 1) r1 hi with ⟨l2, q', h3, h4, h5⟩ | ⟨h3, h4⟩
     ·refine .inl ⟨l :: l2, q', ?_, ?_, ?_⟩
      ·simp only [rdK, h1, h3]
      ·rw [show i + (k + 1) = i + 1 + k by omega]; exact h4
      ·rw [List.range_succ_eq_map, List.map_cons, List.map_map]
       rw [show i + 0 = i from rfl, hv]
       simp only [List.cons.injEq, true_and]
       rw [<- h5]
       refine List.map_congr_left fun j _ => ?_
       simp only [Function.comp_apply]
       rw [show i + (j + 1) = i + 1 + j by omega]
     ·refine .inr ⟨?_, ?_⟩
      ·simp only [rdK, h1, h3]
      ·rw [show i + (k + 1) = i + 1 + k by omega]; exact h4
    ·refine .inr ⟨by simp only [rdK, h1], ?_⟩
     rw [show i + (k + 1) = i + 1 + k by omega]
     exact hnn k _ hi
theorem count_rd {β : Type} {rd : List Int -> Option (β × List Int)} {it : Nat -> Option (List Int)} {val : Nat -> β} (L : List Int)
  (h0 : it 0 = (manyN (some L)).2)
  (hs : ∀ i q, it i = some q -> (∃ l r, rd q = some (l, r) /\ it (i + 1) = some r /\ val i = l) \/ (rd q = none /\ it (i + 1) = none))
  (hn : ∀ i, it i = none -> it (i + 1) = none) :
  (∃ l r, rdC none rd L = some (l, r) /\ it (manyN (some L)).1.toNat = some r /\ (List.range (manyN (some L)).1.toNat).map val = l) \/ (rdC none rd L = none /\ it (manyN (some L)).1.toNat = none) := by
  cases L with
  | nil => exact .inr ⟨rfl, h0⟩
  | cons n r =>
    by_cases h : 0 <= n /\ n <= (r.length : Int)
    ·have e0 : manyN (some (n :: r)) = (n, some r) := by rw [manyN_cons, if_pos h]
     have hrd : rdC none rd (n :: r) = rdK rd n.toNat r := by
      simp only [rdC]
      rw [if_pos ⟨h.1, h.2, fun m hm => by cases hm⟩]
     rw [e0] at h0 ⊢
     rw [hrd]
     have := steps_rd hs hn n.toNat 0 r h0
     simp only [Nat.zero_add] at this
     exact this
    ·have e0 : manyN (some (n :: r)) = (0, none) := by rw [manyN_cons, if_neg h]
     rw [e0] at h0 ⊢
     refine .inr ⟨?_, h0⟩
     simp only [rdC]
     rw [if_neg (fun e => h ⟨e.1, e.2.1⟩)]
theorem takeN_none : takeN none = (0, none) := rfl
theorem takeN_nil : takeN (some []) = (0, none) := rfl
theorem takeN_cons (x : Int) (L : List Int) : takeN (some (x :: L)) = (x, some L) := rfl
theorem vecsN_none : vecsN none = ([], none) := rfl
theorem emitsN_none : emitsN none = ([], none) := rfl
theorem listsN_none : listsN none = ([], none) := rfl
theorem vecsN_rd (L : List Int) : (∃ l r, rdVecs L = some (l, r) /\ vecsN (some L) = (l, some r)) \/ (rdVecs L = none /\ (vecsN (some L)).2 = none) := by
 have := count_rd (rd := rdVec) (it := itV (some L)) (val := vecV (some L)) L rfl (fun i q hq => by
  simp only [itV, vecV, hq]
  match q with
  | [] => exact .inr ⟨rfl, rfl⟩
  | [_] => exact .inr ⟨rfl, rfl⟩
  | [_, _] => exact .inr ⟨rfl, rfl⟩
  | a :: b :: c :: r => exact .inl ⟨_, _, rfl, rfl, rfl⟩) (fun i hi => by simp only [itV, hi]; rfl)
 rcases this with ⟨l, r, h1, h2, h3⟩ | ⟨h1, h2⟩
 ·exact .inl ⟨l, r, h1, by unfold vecsN; rw [h2, h3]⟩
 ·exact .inr ⟨h1, h2⟩
theorem emitsN_rd (L : List Int) : (∃ l r, rdEmits L = some (l, r) /\ emitsN (some L) = (l, some r)) \/ (rdEmits L = none /\ (emitsN (some L)).2 = none) := by
 have := count_rd (rd := rdVecs) (it := itE (some L)) (val := fun i => (vecsN (itE (some L) i)).1) L rfl (fun i q hq => by
  simp only [itE, hq]
  rcases vecsN_rd q with ⟨l, r, h1, h2⟩ | ⟨h1, h2⟩
  ·exact .inl ⟨l, r, h1, by rw [h2], by rw [h2]⟩
  ·exact .inr ⟨h1, h2⟩) (fun i hi => by simp only [itE, hi]; rfl)
 rcases this with ⟨l, r, h1, h2, h3⟩ | ⟨h1, h2⟩
 ·exact .inl ⟨l, r, h1, by unfold emitsN; rw [h2, h3]⟩
 ·exact .inr ⟨h1, h2⟩
def tableN (rest : Option (List Int)) : (List Int × List Int × List (List Int) × List Int × List (List Int) × List (List V3)) × Option (List Int) :=
 let c := listN rest
 let l := listN c.2
 let bn := listsN l.2
 let bo := listN bn.2
 let fn := listsN bo.2
 let fe := emitsN fn.2
 ((c.1, l.1, bn.1, bo.1, fn.1, fe.1), fe.2)
end Go.Proofs.Ytacgakkcpmhgmaa
namespace Go.Proofs.Ytacgakkcpmhgmaa
open Go Go.RowKit Go.Proofs
theorem own_ge {w : World} {B n k : Nat} {v : Value} {l : List Int} (h : Own w B v n l) (hk : v.ownBlock = some k) : B <= k := by
 rcases h.2 with ⟨rfl, _⟩ | ⟨g, cap, cur, rfl, hg, _⟩
 ·cases hk
 ·simp only [Value.ownBlock, Option.some.injEq] at hk
  subst hk; exact hg
theorem own_mono {w : World} {B B' n : Nat} {v : Value} {l : List Int} (h : Own w B v n l) (hb : B' <= B) : Own w B' v n l := by
 obtain ⟨h1, h2⟩ := h
 refine ⟨h1, ?_⟩
 rcases h2 with h2 | ⟨g, cap, cur, e, hg, r⟩
 ·exact .inl h2
 ·exact .inr ⟨g, cap, cur, e, Nat.le_trans hb hg, r⟩
def IntRows (w : World) (B : Nat) (v : Value) (l : List (List Int)) : Prop := ∃ g f, v = sl g l.length l.length /\ B <= g /\ Blk w g 22 (valsA l.length f) /\ ∀ i, i < l.length -> Own w B (f i) (l.getD i []).length (l.getD i [])
def VecRows (w : World) (B : Nat) (v : Value) (l : List (List V3)) : Prop := ∃ g f, v = sl g l.length l.length /\ B <= g /\ Blk w g 36 (valsA l.length f) /\ ∀ i, i < l.length -> VecRow w B (f i) (l.getD i [])
def IntRow (w : World) (B : Nat) (v : Value) (l : List Int) : Prop := ∃ g, v = sl g l.length l.length /\ Own w B v l.length l
section
variable {w w' : World} {B B' b g i : Nat} {v u : Value} {t : TypeId} {cs : Array Value}
theorem IntRow.fr {l : List Int} (h : IntRow w B v l) (hf : Fr (fun q => q = b) w w') (hb : b < B) : IntRow w' B v l := by
 obtain ⟨g, e, ho⟩ := h
 exact ⟨g, e, hf.own ho (fun k hk e => by have := own_ge ho hk; omega)⟩
theorem IntRow.mono {l : List Int} (h : IntRow w B v l) (hb : B' <= B) : IntRow w B' v l := by
 obtain ⟨g, e, ho⟩ := h
 exact ⟨g, e, own_mono ho hb⟩
theorem IntRow.set_ {l : List Int} (h : IntRow w B v l) (hg : Blk w g t cs) (ht : t ≠ 3) : IntRow (w.setCell ⟨g, i, none⟩ u) B v l := by
 obtain ⟨g', e, ho⟩ := h
 exact ⟨g', e, ownSet ho hg ht⟩
theorem IntRows.fr {l : List (List Int)} (h : IntRows w B v l) (hf : Fr (fun q => q = b) w w') (hb : b < B) : IntRows w' B v l := by
 obtain ⟨g, f, e, hg, hx, hv⟩ := h
 exact ⟨g, f, e, hg, hf.blk hx (fun e => by omega), fun i hi => hf.own (hv i hi) (fun k hk e => by have := own_ge (hv i hi) hk; omega)⟩
theorem IntRows.mono {l : List (List Int)} (h : IntRows w B v l) (hb : B' <= B) : IntRows w B' v l := by
 obtain ⟨g, f, e, hg, hx, hv⟩ := h
 exact ⟨g, f, e, Nat.le_trans hb hg, hx, fun i hi => own_mono (hv i hi) hb⟩
theorem IntRows.set_ {l : List (List Int)} (h : IntRows w B v l) (hg : Blk w g t cs) (ht : t ≠ 3) (ht2 : t ≠ 22) : IntRows (w.setCell ⟨g, i, none⟩ u) B v l := by
 obtain ⟨g', f, e, hg', hx, hv⟩ := h
 exact ⟨g', f, e, hg', blkSet hx hg ht2, fun i hi => ownSet (hv i hi) hg ht⟩
theorem VecRow.mono {l : List V3} (h : VecRow w B v l) (hb : B' <= B) : VecRow w B' v l := by
 obtain ⟨g, f, e, hg, hx, hv⟩ := h
 exact ⟨g, f, e, Nat.le_trans hb hg, hx, hv⟩
theorem VecRows.mono {l : List (List V3)} (h : VecRows w B v l) (hb : B' <= B) : VecRows w B' v l := by
 obtain ⟨g, f, e, hg, hx, hv⟩ := h
 exact ⟨g, f, e, Nat.le_trans hb hg, hx, fun i hi => (hv i hi).mono hb⟩
theorem VecRows.set_ {l : List (List V3)} (h : VecRows w B v l) (hg : Blk w g t cs) (ht : t ≠ 51) (ht2 : t ≠ 36) : VecRows (w.setCell ⟨g, i, none⟩ u) B v l := by
 obtain ⟨g', f, e, hg', hx, hv⟩ := h
 exact ⟨g', f, e, hg', blkSet hx hg ht2, fun i hi => (hv i hi).set_ hg ht⟩
end
structure TabO (w : World) (B : Nat) (vc vl vbn vbo vfn vfe : Value) (t : Tab) : Prop where
 c : IntRow w B vc t.cuts
 l : IntRow w B vl t.letters
 bn : IntRows w B vbn t.bn
 bo : IntRow w B vbo t.bo
 fn : IntRows w B vfn t.fn
 fe : VecRows w B vfe t.fe
def AllSl (cs : Array Value) : Prop := ∀ v ∈ cs, ∃ a m c, v = .slice a m c
theorem AllSl.set_ {cs : Array Value} (h : AllSl cs) (i : Nat) {u : Value} (hu : ∃ a m c, u = .slice a m c) : AllSl (cs.setIfInBounds i u) := by
 intro v hv
 rcases Array.mem_or_eq_of_mem_setIfInBounds hv with h1 | h1
 ·exact h v h1
 ·subst h1; exact hu
theorem TabO.set_ {w : World} {B g i : Nat} {vc vl vbn vbo vfn vfe u : Value} {t : Tab} {cs : Array Value} (h : TabO w B vc vl vbn vbo vfn vfe t) (hg : Blk w g 32 cs) : TabO (w.setCell ⟨g, i, none⟩ u) B vc vl vbn vbo vfn vfe t :=
 ⟨h.c.set_ hg (by decide), h.l.set_ hg (by decide), h.bn.set_ hg (by decide) (by decide), h.bo.set_ hg (by decide), h.fn.set_ hg (by decide) (by decide), h.fe.set_ hg (by decide) (by decide)⟩
end Go.Proofs.Ytacgakkcpmhgmaa
namespace Go.Proofs.Ytacgakkcpmhgmaa
open Go Go.RowKit Go.Proofs
def tabOf (t : List Int × List Int × List (List Int) × List Int × List (List Int) × List (List V3)) : Tab := ⟨t.1, t.2.1, t.2.2.1, t.2.2.2.1, t.2.2.2.2.1, t.2.2.2.2.2⟩
theorem tableN_rd (L : List Int) : (∃ t r, rdT none L = some (t, r) /\ (tableN (some L)).2 = some r /\ tabOf (tableN (some L)).1 = t) \/ (rdT none L = none /\ (tableN (some L)).2 = none) := by
 have z : ∀ q, q = none -> (listN q).2 = none := fun q e => by subst e; rfl
 have zz : ∀ q, q = none -> (listsN q).2 = none := fun q e => by subst e; rfl
 have ze : ∀ q, q = none -> (emitsN q).2 = none := fun q e => by subst e; rfl
 unfold tableN rdT
 rcases listN_rd L with ⟨c, L1, h1, e1⟩ | ⟨h1, e1⟩
 ·rcases listN_rd L1 with ⟨l, L2, h2, e2⟩ | ⟨h2, e2⟩
  ·rcases listsN_rd L2 with ⟨bn, L3, h3, e3⟩ | ⟨h3, e3⟩
   ·rcases listN_rd L3 with ⟨bo, L4, h4, e4⟩ | ⟨h4, e4⟩
    ·rcases listsN_rd L4 with ⟨fn, L5, h5, e5⟩ | ⟨h5, e5⟩
     ·rcases emitsN_rd L5 with ⟨fe, L6, h6, e6⟩ | ⟨h6, e6⟩
      ·refine .inl ⟨⟨c, l, bn, bo, fn, fe⟩, L6, ?_, ?_, ?_⟩
       ·simp only [h1, h2, h3, h4, h5, h6]
       ·simp only [e1, e2, e3, e4, e5, e6]
       ·simp only [e1, e2, e3, e4, e5, e6, tabOf]
      ·refine .inr ⟨by simp only [h1, h2, h3, h4, h5, h6], ?_⟩
       simp only [e1, e2, e3, e4, e5]; exact e6
     ·refine .inr ⟨by simp only [h1, h2, h3, h4, h5], ?_⟩
      simp only [e1, e2, e3, e4]; exact ze _ e5
    ·refine .inr ⟨by simp only [h1, h2, h3, h4], ?_⟩
     simp only [e1, e2, e3]; exact ze _ (zz _ e4)
   ·refine .inr ⟨by simp only [h1, h2, h3], ?_⟩
    simp only [e1, e2]; exact ze _ (zz _ (z _ e3))
  ·refine .inr ⟨by simp only [h1, h2], ?_⟩
   simp only [e1]; exact ze _ (zz _ (z _ (zz _ e2)))
 ·refine .inr ⟨by simp only [h1], ?_⟩
  exact ze _ (zz _ (z _ (zz _ (z _ e1))))
theorem IntRows.rowsI {w : World} {B : Nat} {v : Value} {l : List (List Int)} (h : IntRows w B v l) (hl : l.length <= 1000000) : RowsI w v l := by
 obtain ⟨g, f, rfl, hg, hx, hv⟩ := h
 refine ⟨some ⟨g, 0, none⟩, l.length, rfl, Nat.le_refl _, by unfold maxLen; omega, (fun e => by cases e), fun i hi => ⟨g, 0, f i, rfl, ?_, (hv i hi).readsI⟩⟩
 rw [Nat.zero_add, hx.cell, valsA_at hi]
end Go.Proofs.Ytacgakkcpmhgmaa
namespace Go.Proofs.Ytacgakkcpmhgmaa
open Go Go.RowKit Go.Proofs
theorem VecRow.reads {w : World} {B : Nat} {v : Value} {l : List V3} (h : VecRow w B v l) (hl : l.length <= 1000000) : ReadsE encV 3 w v l.length l := by
 obtain ⟨g, f, rfl, hg, hx, hv⟩ := h
 refine ⟨rfl, some ⟨g, 0, none⟩, l.length, rfl, Nat.le_refl _, by unfold maxLen; omega, (fun e => by cases e), fun i x hi => ⟨g, 0, rfl, fun j u hj => ?_⟩⟩
 have hil : i < l.length := (List.getElem?_eq_some_iff.1 hi).1
 have hj3 : j < 3 := by have := (List.getElem?_eq_some_iff.1 hj).1; rwa [encV_len] at this
 rw [Nat.zero_add, hx.cell, vcells_at f hil hj3, hv i hil]
 have e : l.getD i (0, 0, 0) = x := by rw [List.getD_eq_getElem?_getD, hi]; rfl
 rw [e]; exact hj
theorem VecRows.emitR {w : World} {B : Nat} {v : Value} {l : List (List V3)} (h : VecRows w B v l) (hl : l.length <= 1000000) (hr : ∀ i, i < l.length -> (l.getD i []).length <= 1000000) : EmitR w v l := by
 obtain ⟨g, f, rfl, hg, hx, hv⟩ := h
 refine ⟨some ⟨g, 0, none⟩, l.length, rfl, Nat.le_refl _, by unfold maxLen; omega, (fun e => by cases e), fun i hi => ⟨g, 0, f i, rfl, ?_, (hv i hi).reads (hr i hi)⟩⟩
 rw [Nat.zero_add, hx.cell, valsA_at hi]
theorem IntRow.reads {w : World} {B : Nat} {v : Value} {l : List Int} (h : IntRow w B v l) : ReadsI w v l.length l := by
 obtain ⟨g, e, ho⟩ := h
 exact ho.readsI
theorem TabO.tabR {w : World} {B : Nat} {vc vl vbn vbo vfn vfe : Value} {t : Tab} (h : TabO w B vc vl vbn vbo vfn vfe t) (h1 : t.bn.length <= 1000000) (h2 : t.fn.length <= 1000000) (h3 : t.fe.length <= 1000000) (h4 : ∀ i, i < t.fe.length -> (t.fe.getD i []).length <= 1000000) : TabR w vc vl vbn vbo vfn vfe t :=
 ⟨h.c.reads, h.l.reads, h.bn.rowsI h1, h.bo.reads, h.fn.rowsI h2, h.fe.emitR h3 h4⟩
theorem BytesR.pre {w : World} {A : Option Addr} {n cap k : Nat} {l : List Int} (h : BytesR w (.slice A n cap) n l) (hk : k <= n) : BytesR w (.slice A k cap) k (l.take k) := by
 obtain ⟨⟨h1, a, c, h2, h5, h6, h3, h4⟩, hb⟩ := h
 simp only [Value.slice.injEq, true_and] at h2
 obtain ⟨rfl, rfl⟩ := h2
 refine ⟨⟨by rw [List.length_take]; omega, A, cap, rfl, by omega, h6, h3, fun i x hi => h4 i x ?_⟩, fun x hx => hb x (List.mem_of_mem_take hx)⟩
 rw [List.getElem?_take] at hi
 split at hi
 ·exact hi
 ·cases hi
end Go.Proofs.Ytacgakkcpmhgmaa
