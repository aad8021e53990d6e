/- Regions whose last operation hits what they load: a call entered; two operations that may come up in either order. -/
import Derived.Test.YtkbcepgnjoeneaaLastFree
import Derived.Test.YtkbcepgnjoeneaaApart
namespace Go.Proofs.Ytkbcepgnjoeneaa
open Go Go.RowKit
set_option linter.unusedSimpArgs false
set_option linter.unusedVariables false

theorem run_enter {P : Program} {f : FuncId} {fn : Func} (hf : P.funcs[f]? = some fn) (hname : (fn.name == "runtime.NumGoroutine") = false) (hb : fn.body.isNone = false) (args : Array Value) (w : World) :
    (callFunc f args).run P w = .ok (.enter f args) w := by
  have h1 : fn.name ≠ "runtime.NumGoroutine" := by simpa using hname
  have h3 : ¬ fn.body = none := by intro h; simp [h] at hb
  simp [callFunc, hf, h1, h3, mark, Sem.run]

theorem wp_enter {P : Program} {dst : Option Tmp} {xs : Array Operand} {ats : Array TypeId} {ty : TypeId} {pos : String} {after : Array Edge} {guard : Option (Nat × Bool)} {a : Act} {w : World} {next : Act → World → Prop} {Q : Exit → Act → World → Prop} {R : World → Prop} {f : FuncId} {fn : Func} {v : Value} (args : Array Value)
    (hf : P.funcs[f]? = some fn) (hname : (fn.name == "runtime.NumGoroutine") = false) (hb : fn.body.isNone = false) (ha : #[] ++ xs.map a.eval ++ #[] = args)
    (hc : Calls P f args w fun e w' => e = .returned v ∧ R w') (hR : ∀ w', R w' → next (a.put dst v) w') :
    Oper.wp P { dst, op := .call { callee := .value (.func f), args := xs, argTypes := ats }, type := ty, pos, after, guard } a w next Q := by
  unfold Oper.wp
  rw [execOp_call_go, ha, run_enter hf hname hb, Oper.upon_enter]
  refine hc.mono ?_
  rintro e w' ⟨rfl, h⟩
  exact hR w' h

theorem anyX_g {P : Program} {ops : Array Oper} {Q : Exit → Act → World → Prop} {md : Region.Mode} {S : World → Prop} {m i : Nat} {o : Oper} {fuel : Nat} {listed : Array Bool} {a : Act} {w : World} (hr : Region.ready md ops listed = [i]) (hm : i ≠ m) (ho : ops[i]? = some o) (hw : Region.wanted o (yielded ops a.tmps) = true)
    (h : ∀ K' : Act → World → Prop, (∀ a w, S w → anyX P md ops Q S m fuel (listed.setIfInBounds i true) a w → K' a w) → Oper.wp P o a w K' Q) : anyX P md ops Q S m (fuel + 1) listed a w := by
  refine ⟨fun h0 => (by rw [hr] at h0; cases h0), fun j hj => ?_⟩
  rw [hr] at hj
  obtain rfl : j = i := by simpa using hj
  unfold wpOp
  rw [ho]
  simp only [hw, if_true]
  exact .inl (h _ fun a w hS hx => ⟨fun _ => hS, hx⟩)

/-- Two may come up, and neither is the last. -/
theorem anyX_two {P : Program} {ops : Array Oper} {Q : Exit → Act → World → Prop} {md : Region.Mode} {S : World → Prop} {m i j : Nat} {oi oj : Oper} {fuel : Nat} {listed : Array Bool} {a : Act} {w : World} (hr : Region.ready md ops listed = [i, j]) (hi : i ≠ m) (hj : j ≠ m)
    (hoi : ops[i]? = some oi) (hoj : ops[j]? = some oj) (hwi : oi.guard = none) (hwj : oj.guard = none)
    (h1 : ∀ K' : Act → World → Prop, (∀ a w, S w → anyX P md ops Q S m fuel (listed.setIfInBounds i true) a w → K' a w) → Oper.wp P oi a w K' Q)
    (h2 : ∀ K' : Act → World → Prop, (∀ a w, S w → anyX P md ops Q S m fuel (listed.setIfInBounds j true) a w → K' a w) → Oper.wp P oj a w K' Q) : anyX P md ops Q S m (fuel + 1) listed a w := by
  refine ⟨fun h0 => (by rw [hr] at h0; cases h0), fun k hk => ?_⟩
  rw [hr] at hk
  have hk' : k = i ∨ k = j := by simpa using hk
  rcases hk' with rfl | rfl
  · have hw : Region.wanted oi (yielded ops a.tmps) = true := by simp [Region.wanted, hwi]
    unfold wpOp
    rw [hoi]
    simp only [hw, if_true]
    exact .inl (h1 _ fun a w hS hx => ⟨fun _ => hS, hx⟩)
  · have hw : Region.wanted oj (yielded ops a.tmps) = true := by simp [Region.wanted, hwj]
    unfold wpOp
    rw [hoj]
    simp only [hw, if_true]
    exact .inl (h2 _ fun a w hS hx => ⟨fun _ => hS, hx⟩)

end Go.Proofs.Ytkbcepgnjoeneaa
