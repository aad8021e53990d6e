/- What all laws of sets begin with: the chapter's own example. -/
import Derived.Test.YtkbcepgnjoeneaaSetU
import Derived.Test.YtkbcepgnjoeneaaSetO
import Derived.Test.YtkbcepgnjoeneaaSetH2
import Derived.Test.YtkbcepgnjoeneaaSetS
namespace Go.Proofs.Ytkbcepgnjoeneaa
open Go Go.RowKit
set_option linter.unusedVariables false

/-- Each value reads as its row. -/
def RAll (w : World) : List Value → List (List (Int × Int)) → Prop
  | [], [] => True
  | v :: vs, l :: ls => ReadsP w v l.length l ∧ RAll w vs ls
  | _, _ => False
theorem RAll.at {w : World} : ∀ {vs : List Value} {ls : List (List (Int × Int))}, RAll w vs ls → vs.length = ls.length ∧ ∀ i, i < ls.length → ∃ u, vs[i]? = some u ∧ ReadsP w u (ls.getD i []).length (ls.getD i [])
  | [], [], _ => ⟨rfl, fun i hi => by cases hi⟩
  | v :: vs, l :: ls, h => by
    obtain ⟨h1, h2⟩ := RAll.at h.2
    refine ⟨by simp [h1], fun i hi => ?_⟩
    cases i with
    | zero => exact ⟨v, rfl, h.1⟩
    | succ i =>
      obtain ⟨u, hu, hr⟩ := h2 i (by simpa using hi)
      exact ⟨u, by simpa using hu, by simpa using hr⟩
theorem readsL_mk {w : World} {t : TypeId} (vs : List Value) (ls : List (List (Int × Int))) (h : RAll w vs ls) (hs : ls.length ≤ 1000 := by simp) :
    ReadsL (w.alloc (.cells vs.toArray t)) (.slice (some ⟨w.heap.size, 0, none⟩) ls.length ls.length) ls.length ls := by
  obtain ⟨h1, h2⟩ := h.at
  refine ⟨rfl, _, _, rfl, Nat.le_refl _, by unfold maxLen; omega, (fun e => by cases e), fun i hi => ?_⟩
  obtain ⟨u, hu, hr⟩ := h2 i hi
  refine ⟨w.heap.size, 0, u, rfl, ?_, hr.alloc _⟩
  rw [Nat.zero_add, World.cell?_alloc_at _ _ _ _ (by simp)]
  simpa using hu
def RtAll : List (List (Int × Int)) → Prop
  | [] => True
  | l :: ls => Rt l ∧ RtAll ls
theorem flat_le : ∀ (ls : List (List (Int × Int))), RtAll ls → ls.flatten.length ≤ ls.length * 557056
  | [], _ => by simp
  | l :: ls, h => by
    have := flat_le ls h.2
    have := h.1.short
    rw [List.flatten_cons, List.length_append, List.length_cons]
    omega
theorem flat_ok (ls : List (List (Int × Int))) (hs : ls.length ≤ 1000) (h : RtAll ls) : ls.flatten.length ≤ 1000000000 := by
  have := flat_le ls h; omega
/-- A row that the text lays out. -/
theorem OwnP.lit (w : World) (l : List (Int × Int)) (hs : l.length ≤ 1000) : OwnP (w.alloc (.cells (flatP l).toArray 27)) w.heap.size (.slice (some ⟨w.heap.size, 0, none⟩) l.length l.length) l.length l := by
  have := World.ownsRow_lit (base := w.heap.size) (e := 27) (size := 2) (w := w) (flatP l).toArray l.length (Nat.le_refl _) (by unfold maxLen; omega) (by simp [flatP_len])
  simpa [OwnP] using this
theorem rt_none : Rt [] := trivial
theorem Says.more {w w1 : World} {b : Bool} {e : Ending} {w2 : World} (h : Says w1 b e w2) (hb : Below w.heap.size w w1) : Says w b e w2 := ⟨h.1, hb.trans (h.2.mono hb.size)⟩

set_option maxRecDepth 100000 in
set_option maxHeartbeats 8000000 in
theorem known_any (w : World) : Calls Try.prog 12 #[] w (Says w true) := by
  have BB : Hid (Below w.heap.size w w) := Lib.hid (Below.refl _ _)
  go_enter Try.func12, Try.ntmps12
  go_wp2_with fail
  have hq := not_any (ReadsP.nil w) rt_none
  rw [(show notL [] = [(0, 1114111)] by decide)] at hq
  refine hq.mono ?_
  rintro e W1 ⟨Vn, rfl, h1, h2⟩
  clear hq
  replace BB := Lib.hid (BB.out.trans (h2.mono BB.out.size))
  clear h2
  have Rn : Hid (ReadsP W1 Vn ([(0, 1114111)]).length ([(0, 1114111)])) := Lib.hid h1.reads
  clear h1
  go_wp2_with fail
  have hq := norm_any (OwnP.lit W1 [(5, 6), (3, 4)] (by decide)).reads (by decide)
  rw [(show normL [(5, 6), (3, 4)] = [(3, 6)] by decide)] at hq
  refine hq.mono ?_
  rintro e W2 ⟨Va, rfl, h1, h2⟩
  clear hq
  replace Rn := Lib.hid (ReadsP.below (Rn.out.alloc _) h2)
  replace BB := Lib.hid ((BB.out.alloc BB.out.size _).trans (h2.mono (BB.out.alloc BB.out.size _).size))
  clear h2
  have Ra : Hid (ReadsP W2 Va ([(3, 6)]).length ([(3, 6)])) := Lib.hid h1.reads
  clear h1
  obtain ⟨An, Cn, en, q1n, q2n, _⟩ := Rn.out.form
  subst en
  obtain ⟨Aa, Ca, ea, q1a, q2a, _⟩ := Ra.out.form
  subst ea
  obtain ⟨bn, on, en, _, n1, n2⟩ := Rn.out.at 0 (by decide)
  obtain ⟨ba, oa, ea, _, a1, a2⟩ := Ra.out.at 0 (by decide)
  subst en; subst ea
  simp only [List.getD_cons_zero, Nat.zero_mul, Nat.add_zero] at n1 n2 a1 a2
  go_wp2_with fail
  have hq := has_any (x := 5) Ra.out (by decide)
  rw [(show hasB [(3, 6)] 5 = true by decide)] at hq
  refine hq.mono ?_
  rintro e W3 ⟨rfl, h2⟩
  clear hq
  replace Rn := Lib.hid (ReadsP.below Rn.out h2)
  replace Ra := Lib.hid (ReadsP.below Ra.out h2)
  replace BB := Lib.hid (BB.out.trans (h2.mono BB.out.size))
  clear h2
  clear n1 n2 a1 a2
  go_wp2_with fail
  have hq := has_any (x := 7) Ra.out (by decide)
  rw [(show hasB [(3, 6)] 7 = false by decide)] at hq
  refine hq.mono ?_
  rintro e W4 ⟨rfl, h2⟩
  clear hq
  replace Rn := Lib.hid (ReadsP.below Rn.out h2)
  replace Ra := Lib.hid (ReadsP.below Ra.out h2)
  replace BB := Lib.hid (BB.out.trans (h2.mono BB.out.size))
  clear h2
  go_wp2_with fail
  have hq := right_any Ra.out
  rw [(show rightB 0 [(3, 6)] = true by decide)] at hq
  refine hq.mono ?_
  rintro e W5 ⟨rfl, h2⟩
  clear hq
  replace Rn := Lib.hid (ReadsP.below Rn.out h2)
  replace Ra := Lib.hid (ReadsP.below Ra.out h2)
  replace BB := Lib.hid (BB.out.trans (h2.mono BB.out.size))
  clear h2
  go_wp2_with fail
  have hq := and_any Ra.out Rn.out (by decide) (by decide)
  rw [(show andL [(3, 6)] [(0, 1114111)] = [(3, 6)] by decide)] at hq
  refine hq.mono ?_
  rintro e W6 ⟨Vd, rfl, h1, h2⟩
  clear hq
  replace Rn := Lib.hid (ReadsP.below Rn.out h2)
  replace Ra := Lib.hid (ReadsP.below Ra.out h2)
  replace BB := Lib.hid (BB.out.trans (h2.mono BB.out.size))
  clear h2
  have Rd : Hid (ReadsP W6 Vd ([(3, 6)]).length ([(3, 6)])) := Lib.hid h1.reads
  clear h1
  obtain ⟨Ad, Cd, ed, q1d, q2d, _⟩ := Rd.out.form
  subst ed
  go_wp2_with fail
  have hq := less_any Ra.out Rn.out (by decide) (by decide)
  rw [(show lessL [(3, 6)] [(0, 1114111)] = [] by decide)] at hq
  refine hq.mono ?_
  rintro e W7 ⟨Vl, rfl, h1, h2⟩
  clear hq
  replace Rn := Lib.hid (ReadsP.below Rn.out h2)
  replace Ra := Lib.hid (ReadsP.below Ra.out h2)
  replace Rd := Lib.hid (ReadsP.below Rd.out h2)
  replace BB := Lib.hid (BB.out.trans (h2.mono BB.out.size))
  clear h2
  have Rl : Hid (ReadsP W7 Vl (([] : List (Int × Int))).length (([] : List (Int × Int)))) := Lib.hid h1.reads
  clear h1
  obtain ⟨Al, Cl, el, q1l, q2l, _⟩ := Rl.out.form
  subst el
  have RL := readsL_mk (w := W7) (t := 24) [Value.slice (some ⟨ba, oa, none⟩) [((3 : Int), (6 : Int))].length Ca, Value.slice (some ⟨ba, oa, none⟩) [((3 : Int), (6 : Int))].length Ca, Value.slice (some ⟨ba, oa, none⟩) [((3 : Int), (6 : Int))].length Ca] [[(3, 6)], [(3, 6)], [(3, 6)]] ⟨Ra.out, Ra.out, Ra.out, trivial⟩
  go_wp2_with fail
  have hq := or_any RL (by decide)
  rw [(show normL ([[(3, 6)], [(3, 6)], [(3, 6)]] : List (List (Int × Int))).flatten = [(3, 6)] by decide)] at hq
  refine hq.mono ?_
  rintro e W8 ⟨Vo, rfl, h1, h2⟩
  clear hq
  replace Rn := Lib.hid (ReadsP.below (Rn.out.alloc _) h2)
  replace Ra := Lib.hid (ReadsP.below (Ra.out.alloc _) h2)
  replace Rd := Lib.hid (ReadsP.below (Rd.out.alloc _) h2)
  replace Rl := Lib.hid (ReadsP.below (Rl.out.alloc _) h2)
  replace BB := Lib.hid ((BB.out.alloc BB.out.size _).trans (h2.mono (BB.out.alloc BB.out.size _).size))
  clear h2
  have Ro : Hid (ReadsP W8 Vo ([(3, 6)]).length ([(3, 6)])) := Lib.hid h1.reads
  clear h1
  obtain ⟨Ao, Co, eo, q1o, q2o, _⟩ := Ro.out.form
  subst eo
  go_wp2_with fail
  go_ret
  exact ⟨rfl, BB.out⟩

end Go.Proofs.Ytkbcepgnjoeneaa
