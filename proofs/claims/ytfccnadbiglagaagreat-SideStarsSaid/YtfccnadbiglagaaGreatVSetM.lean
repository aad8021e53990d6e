/- Contract of set.Norm. Contracts of the library's slices.Grow at nil and slices.Concat, of set.Or, set.Less. A row of sets kept where nothing below has turned. -/
import Derived.Test.YtfccnadbiglagaaGreatVSetJ
import Derived.Test.YtfccnadbiglagaaGreatVSetC
import Derived.Lib.AppendZerosOnto
set_option linter.unusedVariables false
set_option linter.unusedSimpArgs false
set_option maxHeartbeats 2000000
namespace Go.Proofs.YtfccnadbiglagaaGreat
open Go Go.RowKit
theorem clipL_mem {l : List (Int × Int)} {r : Int × Int} (h : r ∈ clipL l) : 0 <= r.1 /\ r.1 <= r.2 /\ r.2 <= 1114111 := by
 unfold clipL at h
 obtain ⟨q, _, hq⟩ := List.mem_filterMap.1 h
 split at hq
 ·obtain rfl := Option.some.inj hq; simp only; omega
 ·cases hq
theorem clipL_in (l : List (Int × Int)) (n : Int) : inS (clipL l) n ↔ inS l n /\ 0 <= n /\ n <= 1114111 := by
 constructor
 ·rintro ⟨r, hr, h1, h2⟩
  obtain ⟨q, hq, he⟩ := List.mem_filterMap.1 hr
  split at he
  ·obtain rfl := Option.some.inj he
   simp only at h1 h2
   exact ⟨⟨q, hq, by omega, by omega⟩, by omega, by omega⟩
  ·cases he
 ·rintro ⟨⟨q, hq, h1, h2⟩, h3, h4⟩
  refine ⟨(max q.1 0, min q.2 1114111), List.mem_filterMap.2 ⟨q, hq, if_pos (by omega)⟩, by simp only; omega, by simp only; omega⟩
theorem inS_perm {l m : List (Int × Int)} (h : l.Perm m) (n : Int) : inS l n ↔ inS m n := by
 unfold inS
 exact ⟨fun ⟨r, hr, q⟩ => ⟨r, h.mem_iff.1 hr, q⟩, fun ⟨r, hr, q⟩ => ⟨r, h.mem_iff.2 hr, q⟩⟩
theorem norm_of_clip {l l' : List (Int × Int)} (h : l'.Perm (clipL l)) : normL l' = normL l := by
 refine canon (normL_rt _) (normL_rt _) fun n => ?_
 rw [normL_in, normL_in, inS_perm h, clipL_in]
 exact ⟨fun g => ⟨g.1.1, g.2⟩, fun g => ⟨⟨g.1, g.2⟩, g.2⟩⟩
theorem Tells.more {w w1 : World} {R : List (Int × Int)} {e : Ending} {w2 : World} (h : Tells w1 R e w2) (hb : Below w.heap.size w w1) : Tells w R e w2 := by
 obtain ⟨v, rfl, h1, h2⟩ := h
 exact ⟨v, rfl, h1.more hb.size, hb.trans (h2.mono hb.size)⟩
theorem norm_any {w : World} {v : Value} {n : Nat} {l : List (Int × Int)} (h : ReadsP w v n l) (hn : n <= 1000000000) :
  Calls Tryz.prog 115 #[v] w (Tells w (normL l)) := by
  have HC := Lib.hid (clip_any h hn)
  have hl : (clipL l).length <= n := by rw [<- h.1]; exact clipL_len l
  have hl2 : (clipL l).length <= 1000000000 := by omega
  clear h
  go_enter Tryz.func115, Tryz.ntmps115
  go_wp2_with fail
  refine HC.out.mono ?_
  rintro e w1 ⟨v1, rfl, ho, hb⟩
  have HO := Lib.hid ho; have HB := Lib.hid hb; have hz := hb.size; clear ho hb
  go_wp2_with (go_at_call 133; refine (sort_any HO.out hl2 hz).mono ?_)
  rintro e w2 ⟨rfl, l', hp, hs, ho, hb⟩
  have hf : Full l' := fun r hr => clipL_mem (hp.mem_iff.1 hr)
  have HJ := Lib.hid (join_walk ho.reads hl2 hf)
  have HN := Lib.hid (show joinF l' = normL l by rw [joinF_norm hf hs, norm_of_clip hp])
  have HB2 := Lib.hid (HB.out.trans hb)
  clear hp hs ho hb hf
  go_wp2_with (go_at_call 136; refine HJ.out.mono ?_)
  rintro e w3 ht
  have HT := Lib.hid (ht.more HB2.out); clear ht
  obtain ⟨v3, rfl, h3, h4⟩ := HT.out
  have H3 := Lib.hid h3; have H4 := Lib.hid h4; clear h3 h4
  go_wp2_with fail
  go_ret
  exact ⟨_, rfl, by rw [<- HN.out]; exact H3.out, H4.out⟩
end Go.Proofs.YtfccnadbiglagaaGreat
namespace Go.Proofs.YtfccnadbiglagaaGreat
open Go Go.RowKit
theorem grow_any (w : World) (n : Nat) (hn : n <= 1000000000) :
  Calls Tryz.prog 150 #[.slice none 0 0, .int .i64 n] w (Tells w []) := by
  by_cases h0 : n = 0
  ·subst h0
   have hcon := Any8.slices_Grow_room Tryz.growR none 0 0 0 w (Nat.le_refl _) (by omega) (by omega) (by omega)
   change Calls Tryz.prog 150 _ _ _ at hcon
   refine hcon.mono ?_
   rintro e w' ⟨rfl, rfl⟩
   exact ⟨_, rfl, OwnP.nil _ _, Below.refl _ _⟩
  ·obtain ⟨i0, hi, hz0, hz1, hz2⟩ := info_partsP info_pair
   have hcon := Any8.slices_Grow_grow Tryz.growR i0 _ hi hz0 (by omega) none 0 0 n [] w (Nat.le_refl _) (by omega) (by rw [hz2]; omega) (by omega) (by simp) (fun _ => rfl) (fun a ha => by cases ha)
   change Calls Tryz.prog 150 _ _ _ at hcon
   refine hcon.mono ?_
   rintro e w' ⟨rfl, rfl⟩
   have hge := grownCap_ge w (0 + n) 0 131
   have hle := grownCap_le_maxLen w (0 + n) 0 131 (by unfold maxLen; omega)
   refine ⟨_, rfl, ?_, ((Below.refl _ _).drew).alloc (Nat.le_refl _) _⟩
   refine World.ownsRow_made (w := w.drew) _ _ (Nat.le_refl _) hle ?_
   change _ = grownCap w (0 + n) 0 131 * 2
   simp only [Array.size_append, size_zeroCells]
   show 0 + (0 + n - 0) * 2 + (grownCap w (0 + n) 0 131 - (0 + n)) * 2 = _
   omega
def ReadsL (w : World) (v : Value) (k : Nat) (ls : List (List (Int × Int))) : Prop :=
 ls.length = k /\ ∃ a cap, v = .slice a k cap /\ k <= cap /\ cap <= maxLen /\ (a = none -> cap = 0) /\ ∀ i, i < k -> ∃ b off u, a = some ⟨b, off, none⟩ /\ w.cell? ⟨b, off + i, none⟩ = some u /\ ReadsP w u (ls.getD i []).length (ls.getD i [])
theorem ReadsL.at {w : World} {a : Option Addr} {cap k : Nat} {ls : List (List (Int × Int))} (h : ReadsL w (.slice a k cap) k ls) (i : Nat) (hi : i < k) : ∃ b off u, a = some ⟨b, off, none⟩ /\ w.cell? ⟨b, off + i, none⟩ = some u /\ ReadsP w u (ls.getD i []).length (ls.getD i []) := by
 obtain ⟨_, a', cap', h1, _, _, _, h5⟩ := h
 simp only [Value.slice.injEq, true_and] at h1
 obtain ⟨rfl, rfl⟩ := h1
 exact h5 i hi
theorem flat_snoc (ls : List (List (Int × Int))) (k : Nat) (hk : k < ls.length) : (ls.take (k + 1)).flatten = (ls.take k).flatten ++ ls.getD k [] := by
 have e : ls.getD k [] = ls[k] := by simp [List.getD, List.getElem?_eq_getElem hk]
 rw [e, List.take_succ_eq_append_getElem hk, List.flatten_append]
 simp
theorem flat_take_le (ls : List (List (Int × Int))) (k : Nat) : (ls.take k).flatten.length <= ls.flatten.length := by
 conv => rhs; rw [<- List.take_append_drop k ls, List.flatten_append, List.length_append]
 omega
theorem concat_any {w : World} {v : Value} {k0 : Nat} {ls : List (List (Int × Int))} (h : ReadsL w v k0 ls) (hT : ls.flatten.length <= 1000000000) :
  Calls Tryz.prog 139 #[v] w (Tells w ls.flatten) := by
  have h0 := h
  obtain ⟨hk0, a, cap, rfl, hc, hm, _, _⟩ := h
  unfold maxLen at hm
  have H := Lib.hid h0; have HT := Lib.hid hT; clear h0 hT
  have HK := Lib.hid hk0.symm; clear hk0
  go_enter Tryz.func139, Tryz.ntmps139
  go_wp2_with fail
  go_loopw [3, 11] (fun s i wr => ∃ k m : Nat, k <= k0 /\ i = .int .i64 k /\ s = .int .i64 m /\ m <= 1000000000 /\ Hid (m = (ls.take k).flatten.length) /\ w = wr) (fun _ i _ => k0 - (intOf i).toNat)
  case atStart => exact ⟨0, 0, Nat.zero_le _, rfl, rfl, by omega, Lib.hid rfl, rfl⟩
  case round =>
   obtain ⟨k, m, hk, rfl, rfl, hm9, HM, rfl⟩ := hrel
   by_cases hlt : k < k0
   ·obtain ⟨b, off, u, rfl, c1, hr⟩ := H.out.at k hlt
    have hs := flat_snoc ls k (by rw [<- HK.out]; exact hlt)
    have hs2 := flat_take_le ls (k + 1)
    have hs3 := HT.out
    obtain ⟨a', cap', rfl, q1, q2, q3⟩ := hr.form
    have HS := Lib.hid (show (ls.take (k + 1)).flatten.length = m + (ls.getD k []).length by rw [hs, List.length_append, HM.out])
    rw [HS.out] at hs2
    clear hs hr
    have i0 : (0 : Int) <= (k : Int) := Int.natCast_nonneg _
    have i1 : (k : Int) < (k0 : Int) := by omega
    clear q3
    generalize (ls.getD k []).length = j at *
    have hb : m + j <= 1000000000 := by omega
    clear hs2 hs3
    go_wp2_with fail
    exact ⟨⟨k + 1, m + j, by omega, by go_num, by go_num, hb, Lib.hid HS.out.symm, trivial⟩, by simp [intOf]; omega⟩
   ·obtain rfl : k = k0 := by omega
    have HM2 := Lib.hid (show m = ls.flatten.length by rw [HM.out, List.take_of_length_le (by rw [HK.out]; exact Nat.le_refl _)])
    go_wp2_with (go_at_call 150; refine (grow_any _ m hm9).mono ?_)
    rintro e w1 ⟨v1, rfl, ho, hb⟩
    have HO := Lib.hid ho; have HB := Lib.hid hb; have hz := hb.size; clear ho hb
    go_wp2_with fail
    go_loopw [6, 27] (fun s i wr => ∃ j q : Nat, j <= k /\ i = .int .i64 j /\ Hid (q = (ls.take j).flatten.length) /\ Hid (OwnP wr w.heap.size s q (ls.take j).flatten) /\ Hid (Below w.heap.size w wr)) (fun _ i _ => k - (intOf i).toNat)
    case atStart => exact ⟨0, 0, Nat.zero_le _, rfl, Lib.hid rfl, Lib.hid HO.out, HB⟩
    case round =>
     obtain ⟨j, q, hj, rfl, HQ, HV, HW⟩ := hrel
     have hzz := HW.out.size
     by_cases hlt : j < k
     ·obtain ⟨b, off, u, rfl, c1, hr⟩ := H.out.at j hlt
      have c1' := (HW.out.cell (p := ⟨b, off + j, none⟩) (World.block_lt_of_cell? _ _ c1)).trans c1
      have hr' := Lib.hid (hr.below HW.out)
      have hs := flat_snoc ls j (by rw [<- HK.out]; exact hlt)
      have hs2 := flat_take_le ls (j + 1)
      have hs3 := HT.out
      have HS := Lib.hid hs
      have HS1 := Lib.hid (show (ls.take (j + 1)).flatten.length = q + (ls.getD j []).length by rw [hs, List.length_append, HQ.out])
      rw [HS1.out] at hs2
      have i0 : (0 : Int) <= (j : Int) := Int.natCast_nonneg _
      have i1 : (j : Int) < (k : Int) := by omega
      clear hs hr c1
      go_wp2_with (at_builtin; refine wpList_concatP rfl (.tmp 31) (.tmp 32) rfl w.heap.size _ _ _ (by rfl) HV.out _ _ _ (by rfl) hr'.out (by omega) hzz ?_
                   intro v4 w4 hp1 hp2 _ _
                   have HP1 := Lib.hid hp1; have HP2 := Lib.hid hp2; clear hp1 hp2)
      exact ⟨⟨j + 1, _, by omega, by go_num, Lib.hid HS1.out.symm, Lib.hid (by rw [HS.out]; exact HP1.out), Lib.hid (HW.out.trans HP2.out)⟩, by simp [intOf]; omega⟩
     ·obtain rfl : j = k := by omega
      go_wp2_with fail
      go_ret
      have e : ls.take j = ls := List.take_of_length_le (by rw [HK.out]; exact Nat.le_refl _)
      refine ⟨_, rfl, ?_, HW.out⟩
      have h1 := HV.out; have h2 := HQ.out
      rw [e] at h1 h2
      subst h2
      exact h1
theorem or_any {w : World} {v : Value} {k0 : Nat} {ls : List (List (Int × Int))} (h : ReadsL w v k0 ls) (hT : ls.flatten.length <= 1000000000) :
  Calls Tryz.prog 119 #[v] w (Tells w (normL ls.flatten)) := by
  have HC := Lib.hid (concat_any h hT)
  have HT := Lib.hid hT
  clear h hT
  go_enter Tryz.func119, Tryz.ntmps119
  go_wp2_with fail
  refine HC.out.mono ?_
  rintro e w1 ⟨v1, rfl, ho, hb⟩
  have HO := Lib.hid ho; have HB := Lib.hid hb; clear ho hb
  go_wp2_with (go_at_call 115; refine (norm_any HO.out.reads HT.out).mono ?_)
  rintro e w2 ht
  have HTT := Lib.hid (ht.more HB.out); clear ht
  obtain ⟨v3, rfl, h3, h4⟩ := HTT.out
  have H3 := Lib.hid h3; have H4 := Lib.hid h4; clear h3 h4
  go_wp2_with fail
  go_ret
  exact ⟨_, rfl, H3.out, H4.out⟩
theorem less_any {w : World} {v u : Value} {n m : Nat} {a b : List (Int × Int)} (h : ReadsP w v n a) (h' : ReadsP w u m b) (ha : Rt a) (hb : Rt b) :
  Calls Tryz.prog 121 #[v, u] w (Tells w (lessL a b)) := by
  have HC := Lib.hid (not_any h' hb)
  have H := Lib.hid h; have HA := Lib.hid ha; have HN := Lib.hid (notL_rt hb)
  clear h h' ha hb
  go_enter Tryz.func121, Tryz.ntmps121
  go_wp2_with fail
  refine HC.out.mono ?_
  rintro e w1 ⟨v1, rfl, ho, hb⟩
  have HO := Lib.hid ho; have HB := Lib.hid hb; clear ho hb
  go_wp2_with (go_at_call 120; refine (and_any (H.out.below HB.out) HO.out.reads HA.out HN.out).mono ?_)
  rintro e w2 ht
  have HTT := Lib.hid (ht.more HB.out); clear ht
  obtain ⟨v3, rfl, h3, h4⟩ := HTT.out
  have H3 := Lib.hid h3; have H4 := Lib.hid h4; clear h3 h4
  go_wp2_with fail
  go_ret
  exact ⟨_, rfl, H3.out, H4.out⟩
end Go.Proofs.YtfccnadbiglagaaGreat
namespace Go.Proofs.YtfccnadbiglagaaGreat
open Go Go.RowKit
theorem ReadsL.below {w w' : World} {v : Value} {k : Nat} {ls : List (List (Int × Int))} (h : ReadsL w v k ls) (hb : Below w.heap.size w w') : ReadsL w' v k ls := by
 obtain ⟨h1, a, cap, h2, h3, h4, h5, h6⟩ := h
 refine ⟨h1, a, cap, h2, h3, h4, h5, fun i hi => ?_⟩
 obtain ⟨b, off, u, e1, e2, e3⟩ := h6 i hi
 exact ⟨b, off, u, e1, by rw [hb.cell (p := ⟨b, off + i, none⟩) (World.block_lt_of_cell? w _ e2)]; exact e2, e3.below hb⟩
end Go.Proofs.YtfccnadbiglagaaGreat
