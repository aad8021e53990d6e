/- The step of a drawn region that only reads, with its usual proofs; short names for six facts on arrays of literals; a box of a call's own. -/
import Derived.Test.YtjkcglgkdclidaaVAny
import Derived.Test.YtjkcglgkdclidaaVBlk
set_option linter.unusedVariables false
set_option linter.unusedSimpArgs false
namespace Go.Proofs.Ytjkcglgkdclidaa
open Go Go.RowKit Go.Proofs
theorem zq1 {α : Type _} {a : List α} {i : Nat} (h : i < a.toArray.size) : a.toArray[i] = a[i]'(by simpa using h) := List.getElem_toArray h
theorem zq2 {α : Type _} {a : α} {l : List α} {i : Nat} {h : i + 1 < (a :: l).length} : (a :: l)[i + 1] = l[i]'(Nat.lt_of_succ_lt_succ h) := List.getElem_cons_succ a l i h
theorem zq3 {α : Type _} {a : α} {l : List α} {h : 0 < (a :: l).length} : (a :: l)[0] = a := List.getElem_cons_zero a l h
theorem zq4 {α : Type _} {l : List α} {i : Nat} {a : α} : l.toArray.setIfInBounds i a = (l.set i a).toArray := List.setIfInBounds_toArray l i a
theorem zq5 {α : Type _} {x : α} {xs : List α} {a : α} : (x :: xs).set 0 a = a :: xs := rfl
theorem zq6 {α : Type _} {x : α} {xs : List α} {n : Nat} {a : α} : (x :: xs).set (n + 1) a = x :: xs.set n a := rfl
section
variable {P : Program} {ops : Array Oper} {Q : Exit -> Act -> World -> Prop} {md : Region.Mode} {S : World -> Prop} {m : Nat}
theorem tkx {i : Nat} {oi : Oper} {v : Value} {fuel : Nat} {listed : Array Bool} {a : Act} {w : World} (hS : S w)
  (hv : ∀ w, S w -> (execOp a.eval oi).run P w = .ok (.value v) w) (h : anyX P md ops Q S m fuel (listed.setIfInBounds i true) (a.put oi.dst v) w)
  (hi : ops[i]? = some oi := by rfl) (hg : Region.wanted oi (yielded ops a.tmps) = true := by rfl)
  (hs : Region.noSelect ops = true := by kernel_rfl) (hf : Region.free md ops listed i = true := by kernel_rfl) (hr : (Region.ready md ops listed).contains i = true := by kernel_rfl) (hw : waits md ops m i = true := by kernel_rfl)
  (hQ : ∀ c a w, Q (.panic c) (a.put oi.dst v) w -> Q (.panic c) a w := by exact fun _ _ _ h => h) : anyX P md ops Q S m (fuel + 1) listed a w :=
  anyX_take hi hs hf hr hw hQ (Or.inl ⟨hg, hv⟩) hS h
end
structure BoxQ (w : World) (T : TypeId) (c0 : Array Value) (W : World) : Prop where
 below : Below w.heap.size w W
 a : Blk W w.heap.size T c0
theorem BoxQ.mk' (w : World) (T : TypeId) (c0 : Array Value) : BoxQ w T c0 (w.alloc (.cells c0 T)) := ⟨(Below.refl _ _).alloc (Nat.le_refl _) _, Blk.new _ _ _⟩
theorem BoxQ.bel {w W W' : World} {T : TypeId} {c0 : Array Value} (h : BoxQ w T c0 W) (hb : Below W.heap.size W W') : BoxQ w T c0 W' := ⟨h.below.trans (hb.mono h.below.size), Blk.below h.a hb h.a.lt⟩
theorem BoxQ.drew {w W : World} {T : TypeId} {c0 : Array Value} (h : BoxQ w T c0 W) : BoxQ w T c0 W.drew := ⟨h.below.drew, Blk.drew h.a⟩
theorem BoxQ.alloc {w W : World} {T : TypeId} {c0 : Array Value} (h : BoxQ w T c0 W) (o : Obj) : BoxQ w T c0 (W.alloc o) := h.bel ((Below.refl _ _).alloc (Nat.le_refl _) o)
end Go.Proofs.Ytjkcglgkdclidaa
