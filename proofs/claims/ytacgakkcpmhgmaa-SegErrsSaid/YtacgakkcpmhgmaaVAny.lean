/- Regions that draw their order and whose last operation hits what the region loads: a held condition that is asked behind every operation but that last one, which waits for all others. Regions that draw their order and whose last operation hits what they load, where that one waits for the others by way of gates only: operations that all the others come ahead of. Regions that draw their order where memory may be made in any order: what holds behind them, said once; several operations that may come up. -/
import Derived.Test.YtacgakkcpmhgmaaProg
import Derived.OrdersHeld
import Derived.Deep.RegionHeld
import Derived.WalkKit
import Derived.BigCall
set_option linter.unusedVariables false
set_option linter.unusedSimpArgs false
namespace Go.Proofs.Ytacgakkcpmhgmaa
open Go
section
variable {P : Program} {ops : Array Oper} {Q : Exit -> Act -> World -> Prop} {md : Region.Mode} {S : World -> Prop} {m : Nat}
def anyX (P : Program) (md : Region.Mode) (ops : Array Oper) (Q : Exit -> Act -> World -> Prop) (S : World -> Prop) (m : Nat) : Nat -> Array Bool -> Act -> World -> Prop
 | 0, listed, a, w => Region.ready md ops listed = [] /\ Q .normal a w
 | fuel + 1, listed, a, w =>
   (Region.ready md ops listed = [] -> Q .normal a w) /\
   ∀ i ∈ Region.ready md ops listed, wpOp P ops Q i (fun a' w' => (i ≠ m -> S w') /\ anyX P md ops Q S m fuel (listed.setIfInBounds i true) a' w') a w
theorem any_of_x : ∀ (fuel : Nat) (listed : Array Bool) (a : Act) (w : World), anyX P md ops Q S m fuel listed a w -> wpAny P md ops Q fuel listed a w
 | 0, _, _, _, h => h
 | fuel + 1, _, _, _, h => ⟨h.1, fun i hi => wpOp_mono (fun a' w' h' => any_of_x fuel _ a' w' h'.2) (h.2 i hi)⟩
def waits (md : Region.Mode) (ops : Array Oper) (m i : Nat) : Bool := ((ops[m]?).map fun o => o.after.any fun e => Region.binds md e && e.on == i).getD false
theorem not_ready {i : Nat} {listed : Array Bool} (h : waits md ops m i = true) (hi : i ∈ Region.ready md ops listed) : m ∉ Region.ready md ops listed := by
 intro hm
 obtain ⟨_, om, hom, hall⟩ := mem_ready.1 hm
 have h0 := (mem_ready.1 hi).1
 unfold waits at h
 rw [hom] at h
 simp only [Option.map_some, Option.getD_some, Array.any_eq_true, Bool.and_eq_true, beq_iff_eq] at h
 obtain ⟨k, hk, hb, he⟩ := h
 have h1 := hall om.after[k] (Array.getElem_mem hk) hb
 rw [he] at h1
 rcases Nat.lt_or_ge i listed.size with h' | h'
 ·simp [h'] at h0 h1; rw [h0] at h1; cases h1
 ·simp [Array.getElem?_eq_none h'] at h1
theorem anyX_first {i : Nat} {oi : Oper} {v : Value} (hi : ops[i]? = some oi) (hsel : ∀ (j : Nat) (o : Oper) cs b, ops[j]? = some o -> o.op ≠ .select cs b)
  (hQ : ∀ c a w, Q (.panic c) (a.put oi.dst v) w -> Q (.panic c) a w) (hw : waits md ops m i = true) :
  ∀ (fuel : Nat) (listed : Array Bool) (a : Act) (w : World),
    (∀ j oj, ops[j]? = some oj -> j ≠ i -> listed.getD j true = false -> (∀ e ∈ oj.after, Region.binds md e = true -> e.on ≠ i) -> oi.apart ops oj = true) ->
    i ∈ Region.ready md ops listed -> YieldsIf P ops S oi v a -> S w ->
    anyX P md ops Q S m fuel (listed.setIfInBounds i true) (a.put oi.dst v) w -> anyX P md ops Q S m (fuel + 1) listed a w := by
  intro fuel
  induction fuel with
  | zero =>
    intro listed a w _ hr hy hS H
    refine ⟨fun h => (by rw [h] at hr; cases hr), fun j hj => ?_⟩
    by_cases hji : j = i
    ·subst hji; exact hy.wpOp hi hS ⟨fun _ => hS, H⟩
    ·have := ready_mono hj hji
     rw [H.1] at this
     cases this
  | succ fuel ih =>
    intro listed a w hfree hr hy hS H
    refine ⟨fun h => (by rw [h] at hr; cases hr), fun j hj => ?_⟩
    by_cases hji : j = i
    ·subst hji; exact hy.wpOp hi hS ⟨fun _ => hS, H⟩
    ·have hjm : j ≠ m := fun e => by subst e; exact not_ready hw hr hj
     have h1 := H.2 j (ready_mono hj hji)
     obtain ⟨hjun, oj, hoj, hall⟩ := mem_ready.1 hj
     have hnot : ∀ e ∈ oj.after, Region.binds md e = true -> e.on ≠ i := fun e he hb heq => by
      have h1 := hall e he hb
      have h0 := (mem_ready.1 hr).1
      rw [heq] at h1
      rcases Nat.lt_or_ge i listed.size with h' | h'
      ·simp [h'] at h0 h1; rw [h0] at h1; cases h1
      ·simp [Array.getElem?_eq_none h'] at h1
     have h2 := wpOp_putIf hoj (hfree j oj hoj hji hjun hnot) (fun cs b => hsel i oi cs b hi) (fun cs b => hsel j oj cs b hoj) hQ hy h1
     have hfree' : ∀ k ok, ops[k]? = some ok -> k ≠ i -> (listed.setIfInBounds j true).getD k true = false ->
       (∀ e ∈ ok.after, Region.binds md e = true -> e.on ≠ i) -> oi.apart ops ok = true := fun k ok hk hki hun hno => by
       refine hfree k ok hk hki ?_ hno
       by_cases hjk : j = k
       ·subst hjk; exact hjun
       ·rw [getD_set_ne true hjk] at hun; exact hun
     refine wpOp_mono (fun a' w' h3 => ?_) h2
     have hS' := h3.2.1 hjm
     refine ⟨fun _ => hS', ih (listed.setIfInBounds j true) a' w' hfree' (ready_mono hr (Ne.symm hji)) h3.1 hS' ?_⟩
     rw [Array.setIfInBounds_comm _ _ hji]
     exact h3.2.2
theorem anyX_take {i : Nat} {oi : Oper} {v : Value} {fuel : Nat} {listed : Array Bool} {a : Act} {w : World} (hi : ops[i]? = some oi)
  (hs : Region.noSelect ops = true) (hf : Region.free md ops listed i = true) (hr : (Region.ready md ops listed).contains i = true) (hw : waits md ops m i = true)
  (hQ : ∀ c a w, Q (.panic c) (a.put oi.dst v) w -> Q (.panic c) a w) (hy : YieldsIf P ops S oi v a) (hS : S w)
  (h : anyX P md ops Q S m fuel (listed.setIfInBounds i true) (a.put oi.dst v) w) : anyX P md ops Q S m (fuel + 1) listed a w :=
  anyX_first hi (Region.noSelect_spec hs) hQ hw fuel listed a w (Region.free_spec hi hf) (by simpa using hr) hy hS h
theorem anyX_one {i : Nat} {o : Oper} {fuel : Nat} {listed : Array Bool} {a : Act} {w : World} (hr : Region.ready md ops listed = [i]) (hm : i ≠ m) (ho : ops[i]? = some o) (hg : o.guard = none)
  (h : ∀ K' : Act -> World -> Prop, (∀ a w, S w -> anyX P md ops Q S m fuel (listed.setIfInBounds i true) a w -> K' a w) -> Oper.wp P o a w K' Q) : anyX P md ops Q S m (fuel + 1) listed a w := by
  refine ⟨fun h0 => (by rw [hr] at h0; cases h0), fun j hj => ?_⟩
  rw [hr] at hj
  obtain rfl : j = i := by simpa using hj
  have hw : Region.wanted o (yielded ops a.tmps) = true := by simp [Region.wanted, hg]
  unfold wpOp
  rw [ho]
  simp only [hw, if_true]
  exact .inl (h _ fun a w hS hx => ⟨fun _ => hS, hx⟩)
theorem anyX_last {o : Oper} {fuel : Nat} {listed : Array Bool} {a : Act} {w : World} (hr : Region.ready md ops listed = [m]) (hr2 : Region.ready md ops (listed.setIfInBounds m true) = []) (ho : ops[m]? = some o) (hg : o.guard = none)
  (h : Oper.wp P o a w (Q .normal) Q) : anyX P md ops Q S m (fuel + 1) listed a w := by
  refine ⟨fun h0 => (by rw [hr] at h0; cases h0), fun j hj => ?_⟩
  rw [hr] at hj
  obtain rfl : j = m := by simpa using hj
  have hw : Region.wanted o (yielded ops a.tmps) = true := by simp [Region.wanted, hg]
  unfold wpOp
  rw [ho]
  simp only [hw, if_true]
  refine .inl (Oper.wp_mono (fun a w hq => ⟨fun e => absurd rfl e, ?_⟩) h)
  cases fuel with
  | zero => exact ⟨hr2, hq⟩
  | succ f => exact ⟨fun _ => hq, by rw [hr2]; simp⟩
theorem anyX_g {i : Nat} {o : Oper} {fuel : Nat} {listed : Array Bool} {a : Act} {w : World} (hr : Region.ready md ops listed = [i]) (hm : i ≠ m) (ho : ops[i]? = some o) (hw : Region.wanted o (yielded ops a.tmps) = true)
  (h : ∀ K' : Act -> World -> Prop, (∀ a w, S w -> anyX P md ops Q S m fuel (listed.setIfInBounds i true) a w -> K' a w) -> Oper.wp P o a w K' Q) : anyX P md ops Q S m (fuel + 1) listed a w := by
  refine ⟨fun h0 => (by rw [hr] at h0; cases h0), fun j hj => ?_⟩
  rw [hr] at hj
  obtain rfl : j = i := by simpa using hj
  unfold wpOp
  rw [ho]
  simp only [hw, if_true]
  exact .inl (h _ fun a w hS hx => ⟨fun _ => hS, hx⟩)
theorem region_x {id : Nat} {a : Act} {w : World} (m : Nat) (S : World -> Prop) (hm : P.follows .mixedOrders = true)
  (h : anyX P .any ops Q S m ops.size (Array.replicate ops.size false) a w.drew) : (Code.region id ops true).wp P Q a w :=
  wp_region_any hm (any_of_x _ _ _ _ h)
end
theorem run_enter {P : Program} {f : FuncId} {fn : Func} (hf : P.funcs[f]? = some fn) (hname : (fn.name == "runtime.NumGoroutine") = false) (hb : fn.body.isNone = false) (args : Array Value) (w : World) :
  (callFunc f args).run P w = .ok (.enter f args) w := by
  have h1 : fn.name ≠ "runtime.NumGoroutine" := by simpa using hname
  have h3 : ¬ fn.body = none := by intro h; simp [h] at hb
  simp [callFunc, hf, h1, h3, mark, Sem.run]
theorem wp_enter {P : Program} {dst : Option Tmp} {xs : Array Operand} {ats : Array TypeId} {ty : TypeId} {pos : String} {after : Array Edge} {guard : Option (Nat × Bool)} {a : Act} {w : World} {next : Act -> World -> Prop} {Q : Exit -> Act -> World -> Prop} {R : World -> Prop} {f : FuncId} {fn : Func} {v : Value} (args : Array Value)
  (hf : P.funcs[f]? = some fn) (hname : (fn.name == "runtime.NumGoroutine") = false) (hb : fn.body.isNone = false) (ha : #[] ++ xs.map a.eval ++ #[] = args)
  (hc : Calls P f args w fun e w' => e = .returned v /\ R w') (hR : ∀ w', R w' -> next (a.put dst v) w') :
  Oper.wp P { dst, op := .call { callee := .value (.func f), args := xs, argTypes := ats }, type := ty, pos, after, guard } a w next Q := by
  unfold Oper.wp
  rw [execOp_call_go, ha, run_enter hf hname hb, Oper.upon_enter]
  refine hc.mono ?_
  rintro e w' ⟨rfl, h⟩
  exact hR w' h
theorem wp_enterE {P : Program} {dst : Option Tmp} {xs : Array Operand} {ats : Array TypeId} {ty : TypeId} {pos : String} {after : Array Edge} {guard : Option (Nat × Bool)} {a : Act} {w : World} {next : Act -> World -> Prop} {Q : Exit -> Act -> World -> Prop} {Post : Ending -> World -> Prop} {f : FuncId} {fn : Func} (args : Array Value)
  (hf : P.funcs[f]? = some fn) (hname : (fn.name == "runtime.NumGoroutine") = false) (hb : fn.body.isNone = false) (ha : #[] ++ xs.map a.eval ++ #[] = args)
  (hc : Calls P f args w Post) (hR : ∀ e w', Post e w' -> ∃ v, e = .returned v /\ next (a.put dst v) w') :
  Oper.wp P { dst, op := .call { callee := .value (.func f), args := xs, argTypes := ats }, type := ty, pos, after, guard } a w next Q := by
  unfold Oper.wp
  rw [execOp_call_go, ha, run_enter hf hname hb, Oper.upon_enter]
  refine hc.mono ?_
  intro e w' h
  obtain ⟨v, rfl, h2⟩ := hR e w' h
  exact h2
end Go.Proofs.Ytacgakkcpmhgmaa
namespace Go.Proofs.Ytacgakkcpmhgmaa
open Go
section
variable {P : Program} {ops : Array Oper} {Q : Exit -> Act -> World -> Prop} {md : Region.Mode} {S : World -> Prop} {m : Nat} {G : List Nat}
def gated (md : Region.Mode) (ops : Array Oper) (m : Nat) (G : List Nat) (i : Nat) : Bool :=
 (waits md ops m i || G.any fun g => waits md ops m g) && G.all fun g => waits md ops g i || G.any fun g' => waits md ops g g'
theorem not_ready' {x i : Nat} {listed : Array Bool} (h : waits md ops x i = true) (hi : listed.getD i true = false) : x ∉ Region.ready md ops listed := by
 intro hm
 obtain ⟨_, om, hom, hall⟩ := mem_ready.1 hm
 unfold waits at h
 rw [hom] at h
 simp only [Option.map_some, Option.getD_some, Array.any_eq_true, Bool.and_eq_true, beq_iff_eq] at h
 obtain ⟨k, hk, hb, he⟩ := h
 have h1 := hall om.after[k] (Array.getElem_mem hk) hb
 rw [he] at h1
 rcases Nat.lt_or_ge i listed.size with h' | h'
 ·simp [h'] at hi h1; rw [hi] at h1; cases h1
 ·simp [Array.getElem?_eq_none h'] at h1
theorem gated_m {i : Nat} {listed : Array Bool} (h : gated md ops m G i = true) (hi : listed.getD i true = false) (hG : ∀ g ∈ G, listed.getD g true = false) : m ∉ Region.ready md ops listed := by
 simp only [gated, Bool.and_eq_true, Bool.or_eq_true, List.any_eq_true] at h
 rcases h.1 with h | ⟨g, hg, h⟩
 ·exact not_ready' h hi
 ·exact not_ready' h (hG g hg)
theorem gated_g {i : Nat} {listed : Array Bool} (h : gated md ops m G i = true) (hi : listed.getD i true = false) (hG : ∀ g ∈ G, listed.getD g true = false) : ∀ g ∈ G, g ∉ Region.ready md ops listed := by
 simp only [gated, Bool.and_eq_true, List.all_eq_true, Bool.or_eq_true, List.any_eq_true] at h
 intro g hg
 rcases h.2 g hg with h | ⟨g', hg', h⟩
 ·exact not_ready' h hi
 ·exact not_ready' h (hG g' hg')
theorem anyX_firstG {i : Nat} {oi : Oper} {v : Value} (hi : ops[i]? = some oi) (hsel : ∀ (j : Nat) (o : Oper) cs b, ops[j]? = some o -> o.op ≠ .select cs b)
  (hQ : ∀ c a w, Q (.panic c) (a.put oi.dst v) w -> Q (.panic c) a w) (hw : gated md ops m G i = true) :
  ∀ (fuel : Nat) (listed : Array Bool) (a : Act) (w : World),
    (∀ j oj, ops[j]? = some oj -> j ≠ i -> listed.getD j true = false -> (∀ e ∈ oj.after, Region.binds md e = true -> e.on ≠ i) -> oi.apart ops oj = true) ->
    (∀ g ∈ G, listed.getD g true = false) -> i ∈ Region.ready md ops listed -> YieldsIf P ops S oi v a -> S w ->
    anyX P md ops Q S m fuel (listed.setIfInBounds i true) (a.put oi.dst v) w -> anyX P md ops Q S m (fuel + 1) listed a w := by
  intro fuel
  induction fuel with
  | zero =>
    intro listed a w _ _ hr hy hS H
    refine ⟨fun h => (by rw [h] at hr; cases hr), fun j hj => ?_⟩
    by_cases hji : j = i
    ·subst hji; exact hy.wpOp hi hS ⟨fun _ => hS, H⟩
    ·have := ready_mono hj hji
     rw [H.1] at this
     cases this
  | succ fuel ih =>
    intro listed a w hfree hG hr hy hS H
    refine ⟨fun h => (by rw [h] at hr; cases hr), fun j hj => ?_⟩
    by_cases hji : j = i
    ·subst hji; exact hy.wpOp hi hS ⟨fun _ => hS, H⟩
    ·have hun0 := (mem_ready.1 hr).1
     have hjm : j ≠ m := fun e => by subst e; exact gated_m hw hun0 hG hj
     have hjG : ∀ g ∈ G, j ≠ g := fun g hg e => by subst e; exact gated_g hw hun0 hG j hg hj
     have h1 := H.2 j (ready_mono hj hji)
     obtain ⟨hjun, oj, hoj, hall⟩ := mem_ready.1 hj
     have hnot : ∀ e ∈ oj.after, Region.binds md e = true -> e.on ≠ i := fun e he hb heq => by
      have h1 := hall e he hb
      have h0 := (mem_ready.1 hr).1
      rw [heq] at h1
      rcases Nat.lt_or_ge i listed.size with h' | h'
      ·simp [h'] at h0 h1; rw [h0] at h1; cases h1
      ·simp [Array.getElem?_eq_none h'] at h1
     have h2 := wpOp_putIf hoj (hfree j oj hoj hji hjun hnot) (fun cs b => hsel i oi cs b hi) (fun cs b => hsel j oj cs b hoj) hQ hy h1
     have hfree' : ∀ k ok, ops[k]? = some ok -> k ≠ i -> (listed.setIfInBounds j true).getD k true = false ->
       (∀ e ∈ ok.after, Region.binds md e = true -> e.on ≠ i) -> oi.apart ops ok = true := fun k ok hk hki hun hno => by
       refine hfree k ok hk hki ?_ hno
       by_cases hjk : j = k
       ·subst hjk; exact hjun
       ·rw [getD_set_ne true hjk] at hun; exact hun
     have hG' : ∀ g ∈ G, (listed.setIfInBounds j true).getD g true = false := fun g hg => by
      rw [getD_set_ne true (hjG g hg)]; exact hG g hg
     refine wpOp_mono (fun a' w' h3 => ?_) h2
     have hS' := h3.2.1 hjm
     refine ⟨fun _ => hS', ih (listed.setIfInBounds j true) a' w' hfree' hG' (ready_mono hr (Ne.symm hji)) h3.1 hS' ?_⟩
     rw [Array.setIfInBounds_comm _ _ hji]
     exact h3.2.2
theorem anyX_takeG (G : List Nat) {i : Nat} {oi : Oper} {v : Value} {fuel : Nat} {listed : Array Bool} {a : Act} {w : World} (hi : ops[i]? = some oi)
  (hs : Region.noSelect ops = true) (hf : Region.free md ops listed i = true) (hr : (Region.ready md ops listed).contains i = true) (hw : gated md ops m G i = true) (hG : (G.all fun g => !(listed.getD g true)) = true)
  (hQ : ∀ c a w, Q (.panic c) (a.put oi.dst v) w -> Q (.panic c) a w) (hy : YieldsIf P ops S oi v a) (hS : S w)
  (h : anyX P md ops Q S m fuel (listed.setIfInBounds i true) (a.put oi.dst v) w) : anyX P md ops Q S m (fuel + 1) listed a w :=
  anyX_firstG hi (Region.noSelect_spec hs) hQ hw fuel listed a w (Region.free_spec hi hf) (fun g hg => by
   have := List.all_eq_true.1 hG g hg
   simpa using this) (by simpa using hr) hy hS h
end
end Go.Proofs.Ytacgakkcpmhgmaa
namespace Go.Proofs.Ytacgakkcpmhgmaa
open Go
section
variable {P : Program} {ops : Array Oper} {Q : Exit -> Act -> World -> Prop} {S : World -> Prop} {m : Nat}
def Ends_ {π : Type} (mk : π -> Act -> Act) (F : π -> World -> Prop) (a : Act) (Q : Exit -> Act -> World -> Prop) : Exit -> Act -> World -> Prop :=
 fun e a' w' => (∃ p, e = .normal /\ a' = mk p a /\ F p w') \/ (e ≠ .normal /\ Q e a' w')
theorem region_xp {π : Type} {id : Nat} {a : Act} {w : World} (m : Nat) (S : World -> Prop) (mk : π -> Act -> Act) (F : π -> World -> Prop) (hm : P.follows .mixedOrders = true)
  (h : anyX P .any ops (Ends_ mk F a Q) S m ops.size (Array.replicate ops.size false) a w.drew) (hR : ∀ p w', F p w' -> Q .normal (mk p a) w') : (Code.region id ops true).wp P Q a w :=
  Code.wp_mono (fun e a' w' q => by
   rcases q with ⟨p, rfl, rfl, hf⟩ | ⟨_, q⟩
   ·exact hR p w' hf
   ·exact q) (region_x m S hm h)
theorem region_xq {π : Type} {id : Nat} {a : Act} {w : World} (m : Nat) (S : World -> Prop) (mk : π -> Act -> Act) (F Pre : π -> World -> Prop) (fuel : Nat) (L : Array Bool) (hm : P.follows .mixedOrders = true)
  (hleaf : ∀ p W, Pre p W -> anyX P .any ops (Ends_ mk F a Q) S m fuel L (mk p a) W)
  (h : (∀ p W, Pre p W -> anyX P .any ops (Ends_ mk F a Q) S m fuel L (mk p a) W) -> anyX P .any ops (Ends_ mk F a Q) S m ops.size (Array.replicate ops.size false) a w.drew) (hR : ∀ p w', F p w' -> Q .normal (mk p a) w') : (Code.region id ops true).wp P Q a w :=
  region_xp m S mk F hm (h hleaf) hR
theorem ends_panic {π : Type} {mk : π -> Act -> Act} {F : π -> World -> Prop} {a0 : Act} (dst : Option Tmp) (v : Value) (hQ : ∀ c a w, Q (.panic c) (a.put dst v) w -> Q (.panic c) a w) :
  ∀ c a w, Ends_ mk F a0 Q (.panic c) (a.put dst v) w -> Ends_ mk F a0 Q (.panic c) a w := by
  intro c a w h
  rcases h with ⟨p, e, _⟩ | ⟨e, q⟩
  ·cases e
  ·exact .inr ⟨e, hQ c a w q⟩
variable {md : Region.Mode}
theorem anyX_2 {i j : Nat} {oi oj : Oper} {fuel : Nat} {listed : Array Bool} {a : Act} {w : World} (hr : Region.ready md ops listed = [i, j]) (hi : i ≠ m) (hj : j ≠ m)
  (hoi : ops[i]? = some oi) (hoj : ops[j]? = some oj) (hwi : oi.guard = none) (hwj : oj.guard = none)
  (h1 : ∀ K' : Act -> World -> Prop, (∀ a w, S w -> anyX P md ops Q S m fuel (listed.setIfInBounds i true) a w -> K' a w) -> Oper.wp P oi a w K' Q)
  (h2 : ∀ K' : Act -> World -> Prop, (∀ a w, S w -> anyX P md ops Q S m fuel (listed.setIfInBounds j true) a w -> K' a w) -> Oper.wp P oj a w K' Q) : anyX P md ops Q S m (fuel + 1) listed a w := by
  refine ⟨fun h0 => (by rw [hr] at h0; cases h0), fun k hk => ?_⟩
  rw [hr] at hk
  have hk' : k = i \/ k = j := by simpa using hk
  rcases hk' with rfl | rfl
  ·have hw : Region.wanted oi (yielded ops a.tmps) = true := by simp [Region.wanted, hwi]
   unfold wpOp
   rw [hoi]
   simp only [hw, if_true]
   exact .inl (h1 _ fun a w hS hx => ⟨fun _ => hS, hx⟩)
  ·have hw : Region.wanted oj (yielded ops a.tmps) = true := by simp [Region.wanted, hwj]
   unfold wpOp
   rw [hoj]
   simp only [hw, if_true]
   exact .inl (h2 _ fun a w hS hx => ⟨fun _ => hS, hx⟩)
theorem anyX_3 {i j l : Nat} {oi oj ol : Oper} {fuel : Nat} {listed : Array Bool} {a : Act} {w : World} (hr : Region.ready md ops listed = [i, j, l]) (hi : i ≠ m) (hj : j ≠ m) (hl : l ≠ m)
  (hoi : ops[i]? = some oi) (hoj : ops[j]? = some oj) (hol : ops[l]? = some ol) (hwi : oi.guard = none) (hwj : oj.guard = none) (hwl : ol.guard = none)
  (h1 : ∀ K' : Act -> World -> Prop, (∀ a w, S w -> anyX P md ops Q S m fuel (listed.setIfInBounds i true) a w -> K' a w) -> Oper.wp P oi a w K' Q)
  (h2 : ∀ K' : Act -> World -> Prop, (∀ a w, S w -> anyX P md ops Q S m fuel (listed.setIfInBounds j true) a w -> K' a w) -> Oper.wp P oj a w K' Q)
  (h3 : ∀ K' : Act -> World -> Prop, (∀ a w, S w -> anyX P md ops Q S m fuel (listed.setIfInBounds l true) a w -> K' a w) -> Oper.wp P ol a w K' Q) : anyX P md ops Q S m (fuel + 1) listed a w := by
  refine ⟨fun h0 => (by rw [hr] at h0; cases h0), fun k hk => ?_⟩
  rw [hr] at hk
  have hk' : k = i \/ k = j \/ k = l := by simpa using hk
  rcases hk' with rfl | rfl | rfl
  ·have hw : Region.wanted oi (yielded ops a.tmps) = true := by simp [Region.wanted, hwi]
   unfold wpOp
   rw [hoi]
   simp only [hw, if_true]
   exact .inl (h1 _ fun a w hS hx => ⟨fun _ => hS, hx⟩)
  ·have hw : Region.wanted oj (yielded ops a.tmps) = true := by simp [Region.wanted, hwj]
   unfold wpOp
   rw [hoj]
   simp only [hw, if_true]
   exact .inl (h2 _ fun a w hS hx => ⟨fun _ => hS, hx⟩)
  ·have hw : Region.wanted ol (yielded ops a.tmps) = true := by simp [Region.wanted, hwl]
   unfold wpOp
   rw [hol]
   simp only [hw, if_true]
   exact .inl (h3 _ fun a w hS hx => ⟨fun _ => hS, hx⟩)
end
end Go.Proofs.Ytacgakkcpmhgmaa
