/- Contract of set.Norm. -/
import Derived.Test.YtalgnnidhnhciaaGreatDoorSetJ
import Derived.Test.YtalgnnidhnhciaaGreatDoorSetC
set_option maxHeartbeats 1000000
namespace Go.Proofs.YtalgnnidhnhciaaGreatDoor
open Go Go.RowKit
theorem clipL_mem {l : List (Int × Int)} {r : Int × Int} (h : r ∈ clipL l) : 0 <= r.1 /\ r.1 <= r.2 /\ r.2 <= 1114111 := by
 unfold clipL at h
 obtain ⟨q, _, hq⟩ := List.mem_filterMap.1 h
 split at hq
 ·obtain rfl := Option.some.inj hq; simp only; omega
 ·cases hq
theorem clipL_in (l : List (Int × Int)) (n : Int) : inS (clipL l) n ↔ inS l n /\ 0 <= n /\ n <= 1114111 := by
 constructor
 ·rintro ⟨r, hr, h1, h2⟩
  obtain ⟨q, hq, he⟩ := List.mem_filterMap.1 hr
  split at he
  ·obtain rfl := Option.some.inj he
   simp only at h1 h2
   exact ⟨⟨q, hq, by omega, by omega⟩, by omega, by omega⟩
  ·cases he
 ·rintro ⟨⟨q, hq, h1, h2⟩, h3, h4⟩
  refine ⟨(max q.1 0, min q.2 1114111), List.mem_filterMap.2 ⟨q, hq, if_pos (by omega)⟩, by simp only; omega, by simp only; omega⟩
theorem inS_perm {l m : List (Int × Int)} (h : l.Perm m) (n : Int) : inS l n ↔ inS m n := by
 unfold inS
 exact ⟨fun ⟨r, hr, q⟩ => ⟨r, h.mem_iff.1 hr, q⟩, fun ⟨r, hr, q⟩ => ⟨r, h.mem_iff.2 hr, q⟩⟩
theorem norm_of_clip {l l' : List (Int × Int)} (h : l'.Perm (clipL l)) : normL l' = normL l := by
 refine canon (normL_rt _) (normL_rt _) fun n => ?_
 rw [normL_in, normL_in, inS_perm h, clipL_in]
 exact ⟨fun g => ⟨g.1.1, g.2⟩, fun g => ⟨⟨g.1, g.2⟩, g.2⟩⟩
theorem Tells.more {w w1 : World} {R : List (Int × Int)} {e : Ending} {w2 : World} (h : Tells w1 R e w2) (hb : Below w.heap.size w w1) : Tells w R e w2 := by
 obtain ⟨v, rfl, h1, h2⟩ := h
 exact ⟨v, rfl, h1.more hb.size, hb.trans (h2.mono hb.size)⟩
theorem norm_any {w : World} {v : Value} {n : Nat} {l : List (Int × Int)} (h : ReadsP w v n l) (hn : n <= 1000000000) :
  Calls Tryz.prog 54 #[v] w (Tells w (normL l)) := by
  have HC := Lib.hid (clip_any h hn)
  have hl : (clipL l).length <= n := by rw [<- h.1]; exact clipL_len l
  have hl2 : (clipL l).length <= 1000000000 := by omega
  clear h
  go_enter Tryz.func54, Tryz.ntmps54
  go_wp2_with fail
  refine HC.out.mono ?_
  rintro e w1 ⟨v1, rfl, ho, hb⟩
  have HO := Lib.hid ho; have HB := Lib.hid hb; have hz := hb.size; clear ho hb
  go_wp2_with (go_at_call 89; refine (sort_any HO.out hl2 hz).mono ?_)
  rintro e w2 ⟨rfl, l', hp, hs, ho, hb⟩
  have hf : Full l' := fun r hr => clipL_mem (hp.mem_iff.1 hr)
  have HJ := Lib.hid (join_walk ho.reads hl2 hf)
  have HN := Lib.hid (show joinF l' = normL l by rw [joinF_norm hf hs, norm_of_clip hp])
  have HB2 := Lib.hid (HB.out.trans hb)
  clear hp hs ho hb hf
  go_wp2_with (go_at_call 92; refine HJ.out.mono ?_)
  rintro e w3 ht
  have HT := Lib.hid (ht.more HB2.out); clear ht
  obtain ⟨v3, rfl, h3, h4⟩ := HT.out
  have H3 := Lib.hid h3; have H4 := Lib.hid h4; clear h3 h4
  go_wp2_with fail
  go_ret
  exact ⟨_, rfl, by rw [<- HN.out]; exact H3.out, H4.out⟩
end Go.Proofs.YtalgnnidhnhciaaGreatDoor
