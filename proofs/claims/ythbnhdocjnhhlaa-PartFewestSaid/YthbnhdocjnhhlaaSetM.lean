/- Contract of set.Norm. -/
import Derived.Test.YthbnhdocjnhhlaaSetJ
import Derived.Test.YthbnhdocjnhhlaaSetC
namespace Go.Proofs.Ythbnhdocjnhhlaa
open Go Go.RowKit

theorem clipL_mem {l : List (Int × Int)} {r : Int × Int} (h : r ∈ clipL l) : 0 ≤ r.1 ∧ r.1 ≤ r.2 ∧ r.2 ≤ 1114111 := by
  unfold clipL at h
  obtain ⟨q, _, hq⟩ := List.mem_filterMap.1 h
  split at hq
  · obtain rfl := Option.some.inj hq; simp only; omega
  · cases hq
theorem clipL_in (l : List (Int × Int)) (n : Int) : inS (clipL l) n ↔ inS l n ∧ 0 ≤ n ∧ n ≤ 1114111 := by
  constructor
  · rintro ⟨r, hr, h1, h2⟩
    obtain ⟨q, hq, he⟩ := List.mem_filterMap.1 hr
    split at he
    · obtain rfl := Option.some.inj he
      simp only at h1 h2
      exact ⟨⟨q, hq, by omega, by omega⟩, by omega, by omega⟩
    · cases he
  · rintro ⟨⟨q, hq, h1, h2⟩, h3, h4⟩
    refine ⟨(max q.1 0, min q.2 1114111), List.mem_filterMap.2 ⟨q, hq, if_pos (by omega)⟩, by simp only; omega, by simp only; omega⟩
theorem inS_perm {l m : List (Int × Int)} (h : l.Perm m) (n : Int) : inS l n ↔ inS m n := by
  unfold inS
  exact ⟨fun ⟨r, hr, q⟩ => ⟨r, h.mem_iff.1 hr, q⟩, fun ⟨r, hr, q⟩ => ⟨r, h.mem_iff.2 hr, q⟩⟩
theorem norm_of_clip {l l' : List (Int × Int)} (h : l'.Perm (clipL l)) : normL l' = normL l := by
  refine canon (normL_rt _) (normL_rt _) fun n => ?_
  rw [normL_in, normL_in, inS_perm h, clipL_in]
  exact ⟨fun g => ⟨g.1.1, g.2⟩, fun g => ⟨⟨g.1, g.2⟩, g.2⟩⟩

theorem Tells.more {w w1 : World} {R : List (Int × Int)} {e : Ending} {w2 : World} (h : Tells w1 R e w2) (hb : Below w.heap.size w w1) : Tells w R e w2 := by
  obtain ⟨v, rfl, h1, h2⟩ := h
  exact ⟨v, rfl, h1.more hb.size, hb.trans (h2.mono hb.size)⟩

end Go.Proofs.Ythbnhdocjnhhlaa
