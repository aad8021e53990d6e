/- The reader by what is left: list. The reader by what is left: lists. -/
import Derived.Test.YtjkcglgkdclidaaVTableK
import Derived.Test.YtjkcglgkdclidaaVMiniD
import Derived.Test.YtjkcglgkdclidaaVMiniU
set_option linter.unusedVariables false
set_option linter.unusedSimpArgs false
set_option maxRecDepth 100000
set_option maxHeartbeats 4000000
namespace Go.Proofs.Ytjkcglgkdclidaa
open Go Go.RowKit Go.Proofs
def listN (rest : Option (List Int)) : List Int × Option (List Int) :=
 match (manyN rest).2 with
 | some L => (L.take (manyN rest).1.toNat, some (L.drop (manyN rest).1.toNat))
 | none => ([], none)
theorem manyN_some {rest : Option (List Int)} {L : List Int} (h : (manyN rest).2 = some L) : ∃ N : Nat, (manyN rest).1 = (N : Int) /\ N <= L.length := by
 unfold manyN at h ⊢
 split at h
 ·rename_i hc
  rw [if_pos hc]
  rw [h] at hc
  simp only [leftN] at hc
  exact ⟨(takeN rest).1.toNat, by omega, by omega⟩
 ·cases h
theorem manyN_none {rest : Option (List Int)} (h : (manyN rest).2 = none) : (manyN rest).1 = 0 := by
 unfold manyN at h ⊢
 split
 ·rename_i hc
  rw [if_pos hc] at h
  rw [h] at hc
  simp only [leftN] at hc
  omega
 ·rfl
theorem mkI_big (N : Nat) (hN : N <= 1000000) (W : World) : (Instr.makeSlice 22 (.int .i64 (N : Int)) (.int .i64 (N : Int))).run Try.prog W = .ok (.slice (some ⟨W.heap.size, 0, none⟩) N N) (W.alloc (.cells (repA N (.int .i64 0)) 3)) := by
 obtain ⟨i0, hi, hz0, hz1, hz2⟩ := info_parts info_int
 have h := run_make (P := Try.prog) W 22 3 i0 _ Try.underlying22 hi hz0 .i64 .i64 N N (by omega) (Int.le_refl _) (by rw [hz2]; omega) (by omega)
 rw [h]
 simp only [Int.toNat_natCast, hz1, Nat.mul_one]
 congr 4
 unfold repA
 apply Array.ext
 ·simp [size_madeCells]
 ·intro i h1 h2
  simp [madeCells, Value.cells, Nat.mod_one]
theorem repA_len (N : Nat) (v : Value) : (repA N v).size = N := by unfold repA; rw [List.size_toArray, List.length_replicate]
theorem repA_list (N : Nat) (v : Value) : (repA N v).toList = List.replicate N v := rfl
theorem own_rep (N : Nat) (hN : N <= 1000000) (w : World) : Own (w.alloc (.cells (repA N (.int .i64 0)) 3)) w.heap.size (sl w.heap.size N N) N (List.replicate N 0) := by
 have h1 : ((List.replicate N (0 : Int)).map (Value.int .i64)).length = N * 1 := by rw [List.length_map, List.length_replicate, Nat.mul_one]
 have h2 : (repA N (.int .i64 0)).toList.take (N * 1) = (List.replicate N (0 : Int)).map (Value.int .i64) := by
  rw [repA_list, Nat.mul_one, List.map_replicate]
  exact List.take_of_length_le (Nat.le_of_eq List.length_replicate)
 have h3 : N <= maxLen := by unfold maxLen; omega
 have h4 := repA_len N (.int .i64 0)
 generalize repA N (.int .i64 0) = cs at *
 exact ⟨h1, .inr ⟨w.heap.size, N, cs, rfl, Nat.le_refl _, heap_alloc_new w _, Nat.le_refl _, h3, by rw [h4, Nat.mul_one], h2⟩⟩
section
variable {w w' : World} {B b g N c n cap i : Nat} {A : Option Addr} {bs xs : List Int} {y : Int} {rest : Option (List Int)}
theorem RdSt.row (h : RdSt w b A n cap bs rest) (ho : Own w B (sl g N N) N xs) : RdSt (w.setCell ⟨g, i, none⟩ (.int .i64 y)) b A n cap bs rest := by
 obtain ⟨a, br, hc, h2⟩ := h
 refine ⟨a, br, ⟨?_, ?_, hc.le⟩, h2⟩
 ·exact hc.x.far (p := ⟨g, i, none⟩) (fun e => blk_ne hc.x ho (by decide) (by rw [e]; rfl)) _
 ·have ho1 := ho.1
  rcases ho.2 with ⟨e, _⟩ | ⟨g', cap', cur, e, hg, hh, l1, l2, l3, l4⟩
  ·cases e
  ·simp only [sl, Value.slice.injEq, Option.some.injEq, Addr.mk.injEq, and_true, true_and] at e
   obtain ⟨rfl, rfl⟩ := e
   have hx : Blk w g 3 cur := hh
   refine ⟨hc.r.1.far ((Fr.refl (fun q => q = g) w).set_ (p := ⟨g, i, none⟩) (.inl rfl) _) hx (fun z _ j u hj k hk => ?_), hc.r.2⟩
   have hu : u = .int .u8 z := by
    match j, hj with
    | 0, hj => simpa [encB] using hj.symm
    | j + 1, hj => simp [encB] at hj
   subst hu
   have hk2 : cur.toList[k]? = some (.int .u8 z) := by rw [Array.getElem?_toList]; exact hk
   rw [List.take_of_length_le (by rw [Array.length_toList, l3]; exact Nat.le_refl _)] at l4
   rw [l4] at hk2
   rw [List.getElem?_map] at hk2
   cases hxs : xs[k]? with
   | none => rw [hxs] at hk2; cases hk2
   | some q => rw [hxs] at hk2; simp at hk2
end
theorem list_any {w : World} {b : Nat} {A : Option Addr} {n cap : Nat} {bs : List Int} {rest : Option (List Int)} (h : RdSt w b A n cap bs rest) (hn : n <= 8000000) :
  Calls Try.prog 61 #[.pointer (some ⟨b, 0, none⟩)] w fun e w' => ∃ g, e = .returned (sl g (listN rest).1.length (listN rest).1.length) /\ Own w' w.heap.size (sl g (listN rest).1.length (listN rest).1.length) (listN rest).1.length (listN rest).1 /\ RdSt w' b A n cap bs (listN rest).2 /\ Fr (fun q => q = b) w w' := by
  have hbw : b < w.heap.size := by obtain ⟨a, br, hc, -⟩ := h; exact hc.x.lt
  have HR := Lib.hid h
  clear h
  go_enter Try.func61, Try.ntmps61
  go_wp2_with fail
  refine (many_any HR.out).mono ?_
  rintro e w1 ⟨rfl, hr, hf⟩
  obtain ⟨N, L, r2, hN, hNL, hlist, hcase⟩ : ∃ (N : Nat) (L : List Int) (r2 : Option (List Int)), (manyN rest).1 = (N : Int) /\ N <= L.length /\ listN rest = (L.take N, r2) /\ ((manyN rest).2 = some L /\ r2 = some (L.drop N) \/ (manyN rest).2 = none /\ N = 0 /\ r2 = none) := by
   cases hm : (manyN rest).2 with
   | none => exact ⟨0, [], none, manyN_none hm, Nat.le_refl _, by unfold listN; rw [hm]; rfl, .inr ⟨rfl, rfl, rfl⟩⟩
   | some L =>
     obtain ⟨N, e1, e2⟩ := manyN_some hm
     exact ⟨N, L, _, e1, e2, by unfold listN; rw [hm, e1]; rfl, .inl ⟨rfl, rfl⟩⟩
  have hlen : (L.take N).length = N := by rw [List.length_take]; omega
  have hN9 : N <= 1000000 := by
   rcases hcase with ⟨e, -⟩ | ⟨-, e, -⟩
   ·rw [e] at hr
    obtain ⟨a, br, hc, -⟩ := id hr
    have := hr.left hc
    simp only [leftN] at this
    omega
   ·omega
  -- where it stands behind i numbers
  obtain ⟨R, hR⟩ : ∃ R : Nat -> Option (List Int), R = fun i => match (manyN rest).2 with | some L => some (L.drop i) | none => none := ⟨_, rfl⟩
  have hR0 : R 0 = (manyN rest).2 := by rw [hR]; cases (manyN rest).2 <;> rfl
  have hRs : ∀ i, i < N -> takeN (R i) = (L.getD i 0, R (i + 1)) := fun i hi => by
   rcases hcase with ⟨e, -⟩ | ⟨-, e, -⟩
   ·rw [hR]
    simp only [e]
    have hil : i < L.length := by omega
    rw [List.drop_eq_getElem_cons hil]
    simp [takeN, List.getD_eq_getElem?_getD, List.getElem?_eq_getElem hil]
   ·omega
  have hRN : R N = r2 := by
   rw [hR]
   rcases hcase with ⟨e, e2⟩ | ⟨e, e1, e2⟩
   ·simp only [e]; exact e2.symm
   ·simp only [e]; exact e2.symm
  have HRD : Hid (RdSt w1 b A n cap bs (R 0)) := Lib.hid (by rw [hR0]; exact hr)
  have HF := Lib.hid hf
  have hsz := hf.size
  rw [hN]
  have HLST := Lib.hid hlist; have HSZ := Lib.hid hsz
  have HRS := Lib.hid hRs; have HRN := Lib.hid hRN; have HLEN := Lib.hid hlen
  obtain ⟨W2, hW2⟩ : ∃ W, w1.alloc (.cells (repA N (.int .i64 0)) 3) = W := ⟨_, rfl⟩
  obtain ⟨g, hg⟩ : ∃ g, g = w1.heap.size := ⟨_, rfl⟩
  have hb2 : Below w1.heap.size w1 W2 := by rw [<- hW2]; exact (Below.refl _ _).alloc (Nat.le_refl _) _
  have HO : Hid (Own W2 w1.heap.size (sl g N N) N (List.replicate N 0)) := Lib.hid (by rw [<- hW2, hg]; exact own_rep N hN9 w1)
  have HRD2 := Lib.hid (HRD.out.below hb2)
  have HF2 : Hid (Fr (fun q => q = b) w W2) := Lib.hid (by rw [<- hW2]; exact HF.out.alloc _)
  have hmk := mkI_big N hN9 w1
  have HW2 := Lib.hid hW2; have HG := Lib.hid hg
  have hgs : w.heap.size <= g := by omega
  clear hr hf hN hlist hcase hR hR0 hRs hRN HRD HF hsz hW2 hb2 hlen
  go_wp2_with fail
  rw [HW2.out, <- HG.out]
  clear hmk
  have HO2 : Hid (Own W2 w1.heap.size (sl g N N) N (L.take 0 ++ List.replicate (N - 0) 0)) := Lib.hid (by simpa using HO.out)
  clear HO hg
  go_loopw [10] (fun vi wr => ∃ i : Nat, vi = .int .i64 (i : Int) /\ i <= N /\ Hid (Own wr w1.heap.size (sl g N N) N (L.take i ++ List.replicate (N - i) 0)) /\ Hid (RdSt wr b A n cap bs (R i)) /\ Hid (Fr (fun q => q = b) w wr)) (fun vi _ => N - (intOf vi).toNat)
  case atStart => exact ⟨0, rfl, Nat.zero_le _, HO2, HRD2, HF2⟩
  case round =>
   clear HO2 HRD2 HF2
   obtain ⟨i, rfl, hi, HO, HRD, HF⟩ := hrel
   have i0 : (0 : Int) <= (i : Int) := Int.natCast_nonneg _
   by_cases hlt : i < N
   ·have i1 : (i : Int) < (N : Int) := by omega
    have t1 : decide (i < N) = true := by simpa using hlt
    have t2 : decide (N <= i) = false := by simpa using hlt
    have hts := HRS.out i hlt
    go_wp2_with fail
    refine (rtake_any HRD.out).mono ?_
    rintro e w3 ⟨rfl, hr, hf⟩
    rw [hts] at hr ⊢
    have hne : ∀ k, (sl g N N).ownBlock = some k -> ¬ k = b := fun k hk e => by
     have : g = k := by simpa [Value.ownBlock] using hk
     omega
    have ho3 : Own w3 w1.heap.size (sl g N N) N (L.take i ++ List.replicate (N - i) 0) := hf.own HO.out hne
    have hil : i < L.length := by omega
    have hset : (L.take i ++ List.replicate (N - i) 0).set i (L.getD i 0) = L.take (i + 1) ++ List.replicate (N - (i + 1)) 0 := by
     have e1 : N - i = (N - (i + 1)) + 1 := by omega
     have e2 : (L.take i).length = i := by rw [List.length_take]; omega
     have e3 : L.take (i + 1) = L.take i ++ [L[i]] := by rw [List.take_add_one, List.getElem?_eq_getElem hil]; rfl
     have e4 : L.getD i 0 = L[i] := by rw [List.getD_eq_getElem?_getD, List.getElem?_eq_getElem hil]; rfl
     rw [e1, List.replicate_succ, List.set_append_right _ _ (by omega), e2, Nat.sub_self, List.set_cons_zero, e3, e4, List.append_assoc]
     rfl
    obtain ⟨y, hy⟩ : ∃ y, L.getD i 0 = y := ⟨_, rfl⟩
    rw [hy] at hset ⊢
    have hst := (ho3.stored i y).1
    rw [hset] at hst
    have HST := Lib.hid hst
    have HR4 := Lib.hid (hr.row (i := i) (y := y) ho3)
    have HF4 : Hid (Fr (fun q => q = b) w (w3.setCell ⟨g, i, none⟩ (.int .i64 y))) := Lib.hid ((HF.out.trans hf).set_ (p := ⟨g, i, none⟩) (.inr hgs) _)
    obtain ⟨g', o', e', -, c⟩ := ho3.readsI.at i hlt
    simp only [sl, Option.some.injEq, Addr.mk.injEq, and_true] at e'
    obtain ⟨rfl, rfl⟩ := e'
    rw [Nat.zero_add] at c
    obtain ⟨z, hz⟩ : ∃ z, (L.take i ++ List.replicate (N - i) 0).getD i 0 = z := ⟨_, rfl⟩
    rw [hz] at c
    have f := ho3.frozen i
    clear hts hr hf hne ho3 hset hy hst hz
    go_wp2_with fail
    exact ⟨⟨i + 1, by go_num, by omega, HST, HR4, HF4⟩, by simp [intOf]; omega⟩
   ·obtain rfl : N = i := by omega
    have HE : Hid (Own wr w.heap.size (sl g N N) N (L.take N)) := Lib.hid (by
     have := HO.out.more (B' := w.heap.size) HSZ.out
     simpa using this)
    rw [HRN.out] at HRD
    go_wp2_with fail
    go_ret
    rw [HLST.out]
    dsimp only
    rw [HLEN.out]
    exact ⟨g, rfl, HE.out, HRD.out, HF.out⟩
end Go.Proofs.Ytjkcglgkdclidaa
namespace Go.Proofs.Ytjkcglgkdclidaa
open Go Go.RowKit Go.Proofs
theorem made_repT (N : Nat) (z : Value) : madeCells #[z] N = repA N z := by
 unfold repA
 apply Array.ext
 ·simp [size_madeCells]
 ·intro i h1 h2
  simp [madeCells, Nat.mod_one]
theorem info_rowT : (Try.prog.info? 22).map (fun i => (i.zero, i.size, i.bytes)) = some (some (.slice none 0 0), 1, 24) := by kernel_rfl
theorem mkLL_big (N : Nat) (hN : N <= 1000000) (W : World) : (Instr.makeSlice 24 (.int .i64 (N : Int)) (.int .i64 (N : Int))).run Try.prog W = .ok (.slice (some ⟨W.heap.size, 0, none⟩) N N) (W.alloc (.cells (repA N (.slice none 0 0)) 22)) := by
 obtain ⟨i0, hi, hz0, hz1, hz2⟩ := info_parts info_rowT
 have h := run_make (P := Try.prog) W 24 22 i0 _ Try.underlying24 hi hz0 .i64 .i64 N N (by omega) (Int.le_refl _) (by rw [hz2]; omega) (by omega)
 rw [h]
 simp only [Int.toNat_natCast, hz1, Nat.mul_one]
 have e : madeCells (Value.cells (.slice none 0 0)) N = repA N (.slice none 0 0) := made_repT N (.slice none 0 0)
 rw [e]
def valsA (k : Nat) (f : Nat -> Value) : Array Value := ((List.range k).map f).toArray
theorem valsA_rep (k : Nat) (v : Value) : repA k v = valsA k (fun _ => v) := by
 unfold valsA repA
 apply Array.ext
 ·simp
 ·intro i h1 h2; simp
theorem valsA_set (k : Nat) (f : Nat -> Value) (i : Nat) (u : Value) : (valsA k f).setIfInBounds i u = valsA k (fun y => if y = i then u else f y) := by
 unfold valsA
 apply Array.ext
 ·simp
 ·intro j h1 h2
  simp only [Array.size_setIfInBounds, List.size_toArray, List.length_map, List.length_range] at h1
  by_cases e : i = j
  ·subst e; simp [Array.getElem_setIfInBounds]
  ·have e' : ¬ j = i := fun q => e q.symm
   simp [Array.getElem_setIfInBounds, e, e']
theorem valsA_at {k : Nat} {f : Nat -> Value} {i : Nat} (h : i < k) : (valsA k f)[i]? = some (f i) := by simp [valsA, h]
section
variable {w w' V : World} {B : Nat}
theorem blkRow {g k : Nat} {t : TypeId} {f : Nat -> Value} (h : Blk w g t (valsA k f)) (hB : B <= g) (hk : k <= 1000) : w.ownsRow B t 1 (sl g k k) k ((List.range k).map f) :=
 ⟨by simp, .inr ⟨g, k, valsA k f, rfl, hB, h, Nat.le_refl _, by unfold maxLen; omega, by simp [valsA], by simp [valsA, List.take_of_length_le]⟩⟩
theorem ownSet {e t : TypeId} {sz n g i : Nat} {v u : Value} {xs : List Value} {cs : Array Value} (h : w.ownsRow B e sz v n xs) (hg : Blk w g t cs) (hne : t ≠ e) : (w.setCell ⟨g, i, none⟩ u).ownsRow B e sz v n xs :=
 rowFr h ((Fr.refl (fun q => q = g) w).set_ (p := ⟨g, i, none⟩) (.inl rfl) u) (fun q hq e => by subst e; exact blk_ne hg h hne hq)
theorem blkSet {g g' i : Nat} {t t' : TypeId} {cs cs' : Array Value} {u : Value} (h : Blk w g' t' cs') (hg : Blk w g t cs) (hne : t ≠ t') : Blk (w.setCell ⟨g, i, none⟩ u) g' t' cs' :=
 h.far (p := ⟨g, i, none⟩) (fun e => blk_ne2 hg h hne e.symm) u
theorem BytesR.vals {v : Value} {n g k i : Nat} {l : List Int} {t : TypeId} {f : Nat -> Value} {u : Value} (h : BytesR w v n l) (hg : Blk w g t (valsA k f)) (hf : ∀ j, ∃ a m c, f j = .slice a m c) : BytesR (w.setCell ⟨g, i, none⟩ u) v n l :=
 ⟨h.1.far ((Fr.refl (fun q => q = g) w).set_ (p := ⟨g, i, none⟩) (.inl rfl) _) hg (fun z _ j u hj q hq => by
  have hu : u = .int .u8 z := by
   match j, hj with
   | 0, hj => simpa [encB] using hj.symm
   | j + 1, hj => simp [encB] at hj
  subst hu
  by_cases hqk : q < k
  ·rw [valsA_at hqk] at hq
   obtain ⟨a, m, c, e⟩ := hf q
   rw [e] at hq
   cases hq
  ·have : (valsA k f)[q]? = none := Array.getElem?_eq_none (by simp [valsA]; omega)
   rw [this] at hq
   cases hq), h.2⟩
theorem RdSt.vals {b n cap g k i : Nat} {A : Option Addr} {bs : List Int} {rest : Option (List Int)} {t : TypeId} {f : Nat -> Value} {u : Value} (h : RdSt w b A n cap bs rest) (hg : Blk w g t (valsA k f)) (ht : t ≠ 77) (hf : ∀ j, ∃ a m c, f j = .slice a m c) : RdSt (w.setCell ⟨g, i, none⟩ u) b A n cap bs rest := by
 obtain ⟨a, br, hc, h2⟩ := h
 exact ⟨a, br, ⟨blkSet hc.x hg ht, hc.r.vals hg hf, hc.le⟩, h2⟩
end
def itR (rest : Option (List Int)) : Nat -> Option (List Int)
 | 0 => (manyN rest).2
 | i + 1 => (listN (itR rest i)).2
def listsN (rest : Option (List Int)) : List (List Int) × Option (List Int) := ((List.range (manyN rest).1.toNat).map fun i => (listN (itR rest i)).1, itR rest (manyN rest).1.toNat)
theorem manyN_nat (rest : Option (List Int)) : ∃ N : Nat, (manyN rest).1 = (N : Int) := by
 cases hm : (manyN rest).2 with
 | none => exact ⟨0, manyN_none hm⟩
 | some L => obtain ⟨N, e, _⟩ := manyN_some hm; exact ⟨N, e⟩
theorem manyN_le {w : World} {b n cap : Nat} {A : Option Addr} {bs : List Int} {rest : Option (List Int)} (hr : RdSt w b A n cap bs (manyN rest).2) {N : Nat} (hN : (manyN rest).1 = (N : Int)) : N <= n / 8 := by
 cases hm : (manyN rest).2 with
 | none => have := manyN_none hm; omega
 | some L =>
   obtain ⟨M, e1, e2⟩ := manyN_some hm
   rw [hm] at hr
   obtain ⟨a, br, hc, -⟩ := id hr
   have := hr.left hc
   simp only [leftN] at this
   omega
theorem lists_any {w : World} {b : Nat} {A : Option Addr} {n cap : Nat} {bs : List Int} {rest : Option (List Int)} (h : RdSt w b A n cap bs rest) (hn : n <= 8000000) :
  Calls Try.prog 62 #[.pointer (some ⟨b, 0, none⟩)] w fun e w' => ∃ g f, e = .returned (sl g (listsN rest).1.length (listsN rest).1.length) /\ w.heap.size <= g /\ Blk w' g 22 (valsA (listsN rest).1.length f) /\ (∀ i, i < (listsN rest).1.length -> Own w' w.heap.size (f i) ((listsN rest).1.getD i []).length ((listsN rest).1.getD i [])) /\ RdSt w' b A n cap bs (listsN rest).2 /\ Fr (fun q => q = b) w w' := by
  have hbw : b < w.heap.size := by obtain ⟨a, br, hc, -⟩ := h; exact hc.x.lt
  have HR := Lib.hid h
  clear h
  go_enter Try.func62, Try.ntmps62
  go_wp2_with fail
  refine (many_any HR.out).mono ?_
  rintro e w1 ⟨rfl, hr, hf⟩
  obtain ⟨N, hN⟩ := manyN_nat rest
  have hN9 : N <= 1000000 := by have := manyN_le hr hN; omega
  have hlist : listsN rest = ((List.range N).map (fun i => (listN (itR rest i)).1), itR rest N) := by unfold listsN; rw [hN]; rfl
  have hsz := hf.size
  have HSZ := Lib.hid hsz; have HLST := Lib.hid hlist
  rw [hN]
  obtain ⟨W2, hW2⟩ : ∃ W, w1.alloc (.cells (repA N (.slice none 0 0)) 22) = W := ⟨_, rfl⟩
  obtain ⟨g, hg⟩ : ∃ g, g = w1.heap.size := ⟨_, rfl⟩
  have hb2 : Below w1.heap.size w1 W2 := by rw [<- hW2]; exact (Below.refl _ _).alloc (Nat.le_refl _) _
  have HO : Hid (Blk W2 g 22 (valsA N (fun _ => .slice none 0 0))) := Lib.hid (by rw [<- valsA_rep, <- hW2, hg]; exact Blk.new _ _ _)
  have HRD : Hid (RdSt W2 b A n cap bs (itR rest 0)) := Lib.hid (hr.below hb2)
  have HF : Hid (Fr (fun q => q = b) w W2) := Lib.hid (by rw [<- hW2]; exact hf.alloc _)
  have hmk := mkLL_big N hN9 w1
  have HW2 := Lib.hid hW2; have HG := Lib.hid hg
  have hgs : w.heap.size <= g := by omega
  clear hr hf hN hlist hsz hW2 hb2
  go_wp2_with fail
  rw [HW2.out, <- HG.out]
  clear hmk hg
  go_loopw [10] (fun vi wr => ∃ (i : Nat) (f : Nat -> Value), vi = .int .i64 (i : Int) /\ i <= N /\ Hid (Blk wr g 22 (valsA N f)) /\ Hid (∀ j, ∃ a m c, f j = .slice a m c) /\ Hid (∀ j, j < i -> Own wr w.heap.size (f j) (listN (itR rest j)).1.length (listN (itR rest j)).1) /\ Hid (RdSt wr b A n cap bs (itR rest i)) /\ Hid (Fr (fun q => q = b) w wr)) (fun vi _ => N - (intOf vi).toNat)
  case atStart => exact ⟨0, _, rfl, Nat.zero_le _, HO, Lib.hid (fun _ => ⟨_, _, _, rfl⟩), Lib.hid (fun j hj => absurd hj (Nat.not_lt_zero j)), HRD, HF⟩
  case round =>
   clear HO HRD HF
   obtain ⟨i, f, rfl, hi, HO, HSL, HJ, HRD, HF⟩ := hrel
   have i0 : (0 : Int) <= (i : Int) := Int.natCast_nonneg _
   by_cases hlt : i < N
   ·have i1 : (i : Int) < (N : Int) := by omega
    have t1 : decide (i < N) = true := by simpa using hlt
    have t2 : decide (N <= i) = false := by simpa using hlt
    go_wp2_with fail
    refine (list_any HRD.out hn).mono ?_
    rintro e w3 ⟨g3, rfl, ho3, hr, hf⟩
    have hws := HF.out.size
    have hws3 := hf.size
    have hgw := HO.out.lt
    have hO3 := hf.blk HO.out (fun e => by omega)
    have hJ3 : ∀ j, j < i -> Own w3 w.heap.size (f j) (listN (itR rest j)).1.length (listN (itR rest j)).1 := fun j hj => hf.own (HJ.out j hj) (fun k hk e => by have := ((HJ.out j hj).lt k hk).1; omega)
    obtain ⟨m, hm⟩ : ∃ m, (listN (itR rest i)).1.length = m := ⟨_, rfl⟩
    rw [hm] at ho3 ⊢
    have hkeep : ∀ {C k : Nat} {v : Value} {l : List Int}, Own w3 C v k l -> Own (w3.setCell ⟨g, i, none⟩ (sl g3 m m)) C v k l := fun {C k v l} ho => ownSet ho hO3 (by decide)
    have HO4 : Hid (Blk (w3.setCell ⟨g, i, none⟩ (sl g3 m m)) g 22 (valsA N (fun y => if y = i then sl g3 m m else f y))) := Lib.hid (by have := hO3.set_ i (sl g3 m m); rwa [valsA_set] at this)
    have HSL4 : Hid (∀ j, ∃ a m' c, (fun y => if y = i then sl g3 m m else f y) j = .slice a m' c) := Lib.hid (fun j => by
     by_cases e : j = i
     ·simp only [if_pos e]; exact ⟨_, _, _, rfl⟩
     ·simp only [if_neg e]; exact HSL.out j)
    have HJ4 : Hid (∀ j, j < i + 1 -> Own (w3.setCell ⟨g, i, none⟩ (sl g3 m m)) w.heap.size ((fun y => if y = i then sl g3 m m else f y) j) (listN (itR rest j)).1.length (listN (itR rest j)).1) := Lib.hid (fun j hj => by
     by_cases e : j = i
     ·subst e
      simp only [if_pos]
      rw [hm]
      exact (hkeep ho3).more hws
     ·simp only [if_neg e]
      exact hkeep (hJ3 j (by omega)))
    have HR4 : Hid (RdSt (w3.setCell ⟨g, i, none⟩ (sl g3 m m)) b A n cap bs (itR rest (i + 1))) := Lib.hid (hr.vals hO3 (by decide) HSL.out)
    have HF4 : Hid (Fr (fun q => q = b) w (w3.setCell ⟨g, i, none⟩ (sl g3 m m))) := Lib.hid ((HF.out.trans hf).set_ (p := ⟨g, i, none⟩) (.inr hgs) _)
    have c := hO3.cell i; have fz := hO3.frozen i
    rw [valsA_at hlt] at c
    obtain ⟨x, hx⟩ : ∃ x, f i = x := ⟨_, rfl⟩
    rw [hx] at c
    clear ho3 hr hf hO3 hJ3 hm hkeep hx hws3 hgw
    go_wp2_with fail
    exact ⟨⟨i + 1, _, by go_num, by omega, HO4, HSL4, HJ4, HR4, HF4⟩, by simp [intOf]; omega⟩
   ·obtain rfl : N = i := by omega
    go_wp2_with fail
    go_ret
    rw [HLST.out]
    dsimp only
    have hln : ((List.range N).map (fun i => (listN (itR rest i)).1)).length = N := by simp
    rw [hln]
    refine ⟨g, f, rfl, hgs, HO.out, fun j hj => ?_, HRD.out, HF.out⟩
    have e : ((List.range N).map (fun i => (listN (itR rest i)).1)).getD j [] = (listN (itR rest j)).1 := by simp [List.getD_eq_getElem?_getD, hj]
    rw [e]
    exact HJ.out j hj
end Go.Proofs.Ytjkcglgkdclidaa
