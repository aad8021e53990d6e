/- Contract of part.Cuts. -/
import Derived.Test.YtfccnadbiglagaaGreatVPartB
set_option linter.unusedVariables false
set_option linter.unusedSimpArgs false
set_option maxHeartbeats 4000000
namespace Go.Proofs.YtfccnadbiglagaaGreat
open Go Go.RowKit
def CutTells (w : World) (c l : List Int) (e : Ending) (w' : World) : Prop :=
 ∃ v u, e = .returned (.tuple #[v, u]) /\ Own w' w.heap.size v c.length c /\ Own w' w.heap.size u l.length l /\ Below w.heap.size w w'
theorem letsN_next (ks : List Nat) (k : Nat) (hk : k < ks.length) :
  ((lets (ks.take (k + 1))).map fun (i : Nat) => (i : Int)) = ((lets (ks.take k)).map fun (i : Nat) => (i : Int)) ++ [((if ks.getD k 0 ∈ firsts (ks.take k) then ix (firsts (ks.take k)) (ks.getD k 0) else (firsts (ks.take k)).length : Nat) : Int)] /\
  firsts (ks.take (k + 1)) = if ks.getD k 0 ∈ firsts (ks.take k) then firsts (ks.take k) else firsts (ks.take k) ++ [ks.getD k 0] := by
  have e : ks.getD k 0 = ks[k] := by simp [List.getD, List.getElem?_eq_getElem hk]
  rw [e, List.take_succ_eq_append_getElem hk, lets_snoc, firsts_snoc, List.map_append]
  refine ⟨?_, rfl⟩
  simp only [List.map_cons, List.map_nil, firsts_mem]
theorem firsts_len_le {κ : Type} [DecidableEq κ] (ks : List κ) : (firsts ks).length <= ks.length := nodup_le _ _ (firsts_nodup ks) fun x hx => (firsts_mem ks x).1 hx
theorem bits_lets (ss : List (List (Int × Int))) : ((lets ((cutsL ss).map fun n => bitsN (keyL ss n))).map fun (i : Nat) => (i : Int)) = letsL ss := by
 unfold letsL keysL
 congr 1
 refine lets_alike' _ _ _ fun a _ b _ => ⟨fun h => bitsN_inj _ _ (by rw [keyL_len, keyL_len]) h, fun h => by rw [h]⟩
theorem cutsL_len {ss : List (List (Int × Int))} (h : RtAll ss) (k : Nat) (hk : ss.length <= k) : (cutsL ss).length <= 1 + k * 1114112 := by
 have h1 := nodup_le (cutsL ss) (edgesL ss) ((cutsL_is h).1.imp fun {a b} (g : a < b) => by omega) fun x hx => (edges_iff h x).2 (((cutsL_is h).2 x).1 hx)
 have h2 := edges_len h ss.length (Nat.le_refl _)
 rw [List.take_length] at h2
 unfold edgesL at h1
 simp only [List.length_cons] at h1
 have : ss.length * 1114112 <= k * 1114112 := Nat.mul_le_mul_right _ hk
 omega
theorem cuts_any {w : World} {v : Value} {k0 : Nat} {ss : List (List (Int × Int))} (h : ReadsL w v k0 ss) (hr : RtAll ss) (hk0 : k0 <= 13) :
  Calls Tryz.prog 58 #[v] w (CutTells w (cutsL ss) (letsL ss)) := by
  have hm0 : (cutsL ss).length <= 1 + 13 * 1114112 := cutsL_len hr 13 (by rw [h.1]; exact hk0)
  have HE := Lib.hid (edges_any h hr hk0)
  have HBL := Lib.hid (bits_lets ss)
  have HLL := Lib.hid (letsL_len ss)
  have H := Lib.hid h; have HR := Lib.hid hr; clear h hr
  have HBD : Hid (∀ n, bitsN (keyL ss n) < 1000000000) := Lib.hid (fun n => by
   have h1 := bitsN_lt (keyL ss n)
   have h2 := (pow_le k0 hk0).2
   rw [keyL_len, H.out.1] at h1
   omega)
  obtain ⟨C, hC⟩ : ∃ C, C = cutsL ss := ⟨_, rfl⟩
  rw [<- hC] at hm0 HE HBL HLL
  rw [<- hC]
  clear hC
  have hmm := @run_makeMap Tryz.prog
  go_enter Tryz.func58, Tryz.ntmps58
  go_wp2_with fail
  refine HE.out.mono ?_
  rintro e w1 ⟨v1, rfl, h1, h2⟩
  have B1 := Lib.hid h2
  have O1 := Lib.hid h1
  have hz1 := h2.size
  clear h1 h2 HE
  have HKS : Hid ((C.map fun n => bitsN (keyL ss n)).length = C.length) := Lib.hid (by simp)
  have HKG : Hid (∀ k, k < C.length -> (C.map fun n => bitsN (keyL ss n)).getD k 0 = bitsN (keyL ss (C.getD k 0))) := Lib.hid (fun k hk => by simp [List.getD, List.getElem?_eq_getElem hk])
  generalize hks : (C.map fun n => bitsN (keyL ss n)) = ks at *
  clear hks
  generalize hcm : C.length = m at *
  have HCM := Lib.hid hcm; clear hcm
  have R1 := Lib.hid O1.out.readsI
  obtain ⟨a1, cap1, rfl, hc1, hm1, -⟩ := R1.out.form
  go_wp2_with fail
  go_loopw [3, 13] (fun s i wr => ∃ (k n : Nat) (D : DataW Unit), k <= m /\ n <= k /\ i = .int .i64 k /\ Hid (Own wr (w1.heap.size + 1) s k ((lets (ks.take k)).map fun (i : Nat) => (i : Int))) /\ Hid (MapAt wr w1.heap.size n D) /\ Hid (MapOf D (firsts (ks.take k))) /\ Hid (Below w1.heap.size w1 wr) /\ w1.heap.size + 1 <= wr.heap.size) (fun _ i _ => m - (intOf i).toNat)
  case atStart => exact ⟨0, 0, .map [], Nat.zero_le _, Nat.le_refl _, rfl, Lib.hid (Own.nil _ _), Lib.hid (World.ownsMap_made _ _ _ _), Lib.hid MapOf.nil, Lib.hid ((Below.refl _ _).alloc (Nat.le_refl _) _), by simp⟩
  case round =>
   obtain ⟨k, n, D, hk, hnk, rfl, HV, HMA, HMO, HB, hz⟩ := hrel
   have i0 : (0 : Int) <= (k : Int) := Int.natCast_nonneg _
   by_cases hlt : k < m
   ·have i1 : (k : Int) < (m : Int) := by omega
    have t1 : decide (k < m) = true := by simpa using hlt
    obtain ⟨b, off, rfl, hbl, c1⟩ := R1.out.at k hlt
    have c1 := (HB.out.cell (p := ⟨b, off + k, none⟩) hbl).trans c1
    have HJ := Lib.hid (HKG.out k hlt)
    obtain ⟨q1, q2⟩ := letsN_next ks k (by rw [HKS.out]; exact hlt)
    have LN := Lib.hid q1; have FN := Lib.hid q2; clear q1 q2
    have hfl := firsts_len_le (ks.take k)
    have hfl2 : (ks.take k).length <= k := List.length_take_le _ _
    generalize C.getD k 0 = x at *
    have hjb := HBD.out x
    have HRW : Hid (ReadsL wr v k0 ss) := Lib.hid (H.out.same fun b o y hy => by
     have hb' := World.block_lt_of_cell? w _ hy
     rw [HB.out.cell (p := ⟨b, o, none⟩) (by omega), B1.out.cell (p := ⟨b, o, none⟩) hb']; exact hy)
    have HO := Lib.hid (owners_any (n := x) HRW.out HR.out hk0)
    generalize bitsN (keyL ss x) = j at *
    rw [HJ.out] at LN FN
    generalize hF : firsts (ks.take k) = F at *
    clear hF
    go_wp2_with fail
    refine HO.out.mono ?_
    rintro e w2 ⟨rfl, h2⟩
    have HMA2 := Lib.hid (HMA.out.below h2)
    have HV2 := Lib.hid (HV.out.below_top h2)
    have HB2 := Lib.hid (HB.out.trans (h2.mono HB.out.size))
    have hz2 : w1.heap.size + 1 <= w2.heap.size := Nat.le_trans hz h2.size
    clear h2 HO
    go_wp2_with fail
    refine (letter_any HMA2.out HMO.out j hjb (by omega) (by omega)).mono ?_
    rintro e w3 ⟨D3, rfl, h1, h2, h3⟩
    have HMA3 := Lib.hid h1; have HMO3 := Lib.hid h2
    have HV3 := Lib.hid (HV2.out.kept h3 (by
     cases hvb : u3.ownBlock with
     | none => exact .inl rfl
     | some r => right; intro q; have := (HV2.out.lt r hvb).1; have : r = w1.heap.size := by simpa using q
                 omega))
    have hz3 : w1.heap.size + 1 <= w3.heap.size := Nat.le_trans hz2 h3.size
    have HB3 := Lib.hid (HB2.out.grown h3 (by omega) (fun r hr => by cases hr; exact Nat.le_refl _))
    clear h1 h2 h3
    rw [<- FN.out] at HMO3
    generalize hL : ((if j ∈ F then ix F j else F.length : Nat) : Int) = lt at *
    clear hL
    go_wp2_with (at_builtin; refine wpList_push rfl (.tmp 17) (.tmp 23) rfl (w1.heap.size + 1) _ _ _ _ _ (by rfl) HV3.out (by rfl) (by omega) hz3 ?_
                 intro g4 c4 w4 hp
                 have HP := Lib.hid hp; clear hp)
    refine ⟨⟨k + 1, n + 1, D3, by omega, by omega, by go_num, Lib.hid (HP.out.own.cast rfl (by rw [LN.out])), Lib.hid ?_, HMO3, Lib.hid (HP.out.below HB3.out (by omega) (by omega)), Nat.le_trans hz3 HP.out.size⟩, by simp [intOf]; omega⟩
    exact World.ownsMap.kept (World.ownsMap.alloc HMA3.out _) HP.out.grow (fun e => by have := (HP.out.old _ e.symm).1; omega)
   ·have hkm : k = m := by omega
    have e1 : ks.take k = ks := List.take_of_length_le (by rw [HKS.out]; omega)
    have HE1 := Lib.hid e1; clear e1
    have HKM := Lib.hid hkm; clear hkm
    go_wp2_with fail
    go_ret2
    refine ⟨_, _, rfl, ?_, ?_, ?_⟩
    ·exact ((O1.out.below (fun r hr => (O1.out.lt r hr).2) HB.out).cast HCM.out.symm rfl)
    ·exact ((HV.out.more (by omega)).cast (by rw [HKM.out, HLL.out]) (by rw [HE1.out, HBL.out]))
    ·exact B1.out.trans (HB.out.mono hz1)
end Go.Proofs.YtfccnadbiglagaaGreat
