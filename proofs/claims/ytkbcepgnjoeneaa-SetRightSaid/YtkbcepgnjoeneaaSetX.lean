/- What the walks of the laws of sets share: each contract once more, its answer a row known by its numbers alone. -/
import Derived.Test.YtkbcepgnjoeneaaSetV
namespace Go.Proofs.Ytkbcepgnjoeneaa
open Go Go.RowKit

/-- From 0 to the last one. -/
def InU (n : Int) : Prop := 0 ≤ n ∧ n ≤ 1114111
theorem inS_nilF (n : Int) : inS [] n ↔ False := ⟨inS_nil n, False.elim⟩
theorem notL_inU {a : List (Int × Int)} (h : Rt a) (n : Int) : inS (notL a) n ↔ InU n ∧ ¬ inS a n := by
  rw [notL_in h]; unfold InU; exact ⟨fun g => ⟨⟨g.1, g.2.1⟩, g.2.2⟩, fun g => ⟨g.1.1, g.1.2, g.2⟩⟩
def AnyIn (n : Int) : List (List (Int × Int)) → Prop
  | [] => False
  | l :: ls => inS l n ∨ AnyIn n ls
theorem flat_in (n : Int) : ∀ ls : List (List (Int × Int)), inS ls.flatten n ↔ AnyIn n ls
  | [] => ⟨inS_nil n, False.elim⟩
  | l :: ls => by rw [List.flatten_cons, inS_append, flat_in n ls]; exact Iff.rfl
theorem any_num (n : Int) : ∀ ls : List (List (Int × Int)), RtAll ls → AnyIn n ls → 0 ≤ n ∧ n ≤ 1114111
  | [], _, h => h.elim
  | l :: ls, hr, h => by
    rcases h with h | h
    · exact hr.1.num h
    · exact any_num n ls hr.2 h
theorem orN_in (ls : List (List (Int × Int))) (hr : RtAll ls) (n : Int) : inS (normL ls.flatten) n ↔ AnyIn n ls := by
  rw [normL_in, flat_in]
  exact ⟨fun h => h.1, fun h => ⟨h, any_num n ls hr h⟩⟩
theorem IsRow.below {k : IntKind} {w w' : World} {a : Option Addr} {len cap : Nat} {zs : List Int} (h : IsRow k w a len cap zs) (hb : Below w.heap.size w w') : IsRow k w' a len cap zs := by
  rcases h with h | ⟨x, rfl, h1, h2, h3, h4, h5⟩
  · exact .inl h
  · exact .inr ⟨x, rfl, h1, h2, h3, fun i hi => (hb.cell (World.block_lt_of_cell? w _ (h4 i hi))).trans (h4 i hi), h5⟩
theorem IsRow.alloc {k : IntKind} {w : World} {a : Option Addr} {len cap : Nat} {zs : List Int} (h : IsRow k w a len cap zs) (o : Obj) : IsRow k (w.alloc o) a len cap zs :=
  h.below ((Below.refl _ w).alloc (Nat.le_refl _) o)

variable {w : World} {v u : Value} {n m : Nat} {a b : List (Int × Int)}
theorem not_x (h : ReadsP w v n a) (ha : Rt a) : ∃ L, Rt L ∧ (∀ n, inS L n ↔ InU n ∧ ¬ inS a n) ∧ Calls Try.prog 23 #[v] w (Tells w L) :=
  ⟨_, notL_rt ha, notL_inU ha, not_any h ha⟩
theorem rnot_x (h : ReadsP w v n a) (ha : Rt a) : ∃ L, Rt L ∧ (∀ n, inS L n ↔ InU n ∧ ¬ inS a n) ∧ Calls Try.prog 27 #[v] w (Tells w L) :=
  ⟨_, notL_rt ha, notL_inU ha, rnot_any h ha⟩
theorem and_x (h : ReadsP w v n a) (h' : ReadsP w u m b) (ha : Rt a) (hb : Rt b) : ∃ L, Rt L ∧ (∀ n, inS L n ↔ inS a n ∧ inS b n) ∧ Calls Try.prog 22 #[v, u] w (Tells w L) :=
  ⟨_, andL_rt, andL_in ha hb, and_any h h' ha hb⟩
theorem rand_x (h : ReadsP w v n a) (h' : ReadsP w u m b) (ha : Rt a) (hb : Rt b) : ∃ L, Rt L ∧ (∀ n, inS L n ↔ inS a n ∧ inS b n) ∧ Calls Try.prog 26 #[v, u] w (Tells w L) :=
  ⟨_, andL_rt, andL_in ha hb, rand_any h h' ha hb⟩
theorem less_x (h : ReadsP w v n a) (h' : ReadsP w u m b) (ha : Rt a) (hb : Rt b) : ∃ L, Rt L ∧ (∀ n, inS L n ↔ inS a n ∧ ¬ inS b n) ∧ Calls Try.prog 24 #[v, u] w (Tells w L) :=
  ⟨_, lessL_rt, lessL_in ha hb, less_any h h' ha hb⟩
theorem rless_x (h : ReadsP w v n a) (h' : ReadsP w u m b) (ha : Rt a) (hb : Rt b) : ∃ L, Rt L ∧ (∀ n, inS L n ↔ inS a n ∧ ¬ inS b n) ∧ Calls Try.prog 28 #[v, u] w (Tells w L) :=
  ⟨_, lessL_rt, lessL_in ha hb, rless_any h h' ha hb⟩
theorem ror_x (h : ReadsP w v n a) (h' : ReadsP w u m b) (ha : Rt a) (hb : Rt b) : ∃ L, Rt L ∧ (∀ n, inS L n ↔ inS a n ∨ inS b n) ∧ Calls Try.prog 25 #[v, u] w (Tells w L) :=
  ⟨_, orL_rt _ _, orL_in ha hb, ror_any h h' (ha.short2 hb h.1 h'.1)⟩
theorem or_x {k : Nat} {ls : List (List (Int × Int))} (h : ReadsL w v k ls) (hr : RtAll ls) (hs : ls.length ≤ 1000) : ∃ L, Rt L ∧ (∀ n, inS L n ↔ AnyIn n ls) ∧ Calls Try.prog 21 #[v] w (Tells w L) :=
  ⟨_, normL_rt _, orN_in ls hr, or_any h (flat_ok ls hs hr)⟩
theorem same_x (h : ReadsP w v a.length a) (h' : ReadsP w u b.length b) (e : a = b) : Calls Try.prog 15 #[v, u] w (Says w true) := by
  subst e; exact same_any h h'
theorem norm_x (h : ReadsP w v n a) (ha : Rt a) : Calls Try.prog 14 #[v] w (Tells w a) := by
  have := norm_any h (by have := ha.short; rw [h.1] at this; omega)
  rw [normL_self ha] at this
  exact this
theorem right_x (h : ReadsP w v n a) (ha : Rt a) : Calls Try.prog 17 #[v] w (Says w true) := by
  have := right_any h
  rw [(rightB_iff a 0).2 ha] at this
  exact this

end Go.Proofs.Ytkbcepgnjoeneaa
