/- The step of a drawn region that only reads, with its usual proofs; short names for six facts on arrays of literals; a box of a call's own. Regions that draw their order and end with several stores into what the region loads: a held condition that is asked until the first of these stores. A held condition asked until the first store (LastY), for operations that this store waits for by way of gates only (LastGate). -/
import Derived.Test.YtacgakkcpmhgmaaVAny
import Derived.Test.YtacgakkcpmhgmaaVBlk
set_option linter.unusedVariables false
set_option linter.unusedSimpArgs false
namespace Go.Proofs.Ytacgakkcpmhgmaa
open Go Go.RowKit Go.Proofs
theorem zq1 {α : Type _} {a : List α} {i : Nat} (h : i < a.toArray.size) : a.toArray[i] = a[i]'(by simpa using h) := List.getElem_toArray h
theorem zq2 {α : Type _} {a : α} {l : List α} {i : Nat} {h : i + 1 < (a :: l).length} : (a :: l)[i + 1] = l[i]'(Nat.lt_of_succ_lt_succ h) := List.getElem_cons_succ a l i h
theorem zq3 {α : Type _} {a : α} {l : List α} {h : 0 < (a :: l).length} : (a :: l)[0] = a := List.getElem_cons_zero a l h
theorem zq4 {α : Type _} {l : List α} {i : Nat} {a : α} : l.toArray.setIfInBounds i a = (l.set i a).toArray := List.setIfInBounds_toArray l i a
theorem zq5 {α : Type _} {x : α} {xs : List α} {a : α} : (x :: xs).set 0 a = a :: xs := rfl
theorem zq6 {α : Type _} {x : α} {xs : List α} {n : Nat} {a : α} : (x :: xs).set (n + 1) a = x :: xs.set n a := rfl
section
variable {P : Program} {ops : Array Oper} {Q : Exit -> Act -> World -> Prop} {md : Region.Mode} {S : World -> Prop} {m : Nat}
theorem tkx {i : Nat} {oi : Oper} {v : Value} {fuel : Nat} {listed : Array Bool} {a : Act} {w : World} (hS : S w)
  (hv : ∀ w, S w -> (execOp a.eval oi).run P w = .ok (.value v) w) (h : anyX P md ops Q S m fuel (listed.setIfInBounds i true) (a.put oi.dst v) w)
  (hi : ops[i]? = some oi := by rfl) (hg : Region.wanted oi (yielded ops a.tmps) = true := by rfl)
  (hs : Region.noSelect ops = true := by kernel_rfl) (hf : Region.free md ops listed i = true := by kernel_rfl) (hr : (Region.ready md ops listed).contains i = true := by kernel_rfl) (hw : waits md ops m i = true := by kernel_rfl)
  (hQ : ∀ c a w, Q (.panic c) (a.put oi.dst v) w -> Q (.panic c) a w := by exact fun _ _ _ h => h) : anyX P md ops Q S m (fuel + 1) listed a w :=
  anyX_take hi hs hf hr hw hQ (Or.inl ⟨hg, hv⟩) hS h
end
structure BoxQ (w : World) (T : TypeId) (c0 : Array Value) (W : World) : Prop where
 below : Below w.heap.size w W
 a : Blk W w.heap.size T c0
theorem BoxQ.mk' (w : World) (T : TypeId) (c0 : Array Value) : BoxQ w T c0 (w.alloc (.cells c0 T)) := ⟨(Below.refl _ _).alloc (Nat.le_refl _) _, Blk.new _ _ _⟩
theorem BoxQ.bel {w W W' : World} {T : TypeId} {c0 : Array Value} (h : BoxQ w T c0 W) (hb : Below W.heap.size W W') : BoxQ w T c0 W' := ⟨h.below.trans (hb.mono h.below.size), Blk.below h.a hb h.a.lt⟩
theorem BoxQ.drew {w W : World} {T : TypeId} {c0 : Array Value} (h : BoxQ w T c0 W) : BoxQ w T c0 W.drew := ⟨h.below.drew, Blk.drew h.a⟩
theorem BoxQ.alloc {w W : World} {T : TypeId} {c0 : Array Value} (h : BoxQ w T c0 W) (o : Obj) : BoxQ w T c0 (W.alloc o) := h.bel ((Below.refl _ _).alloc (Nat.le_refl _) o)
end Go.Proofs.Ytacgakkcpmhgmaa
namespace Go.Proofs.Ytacgakkcpmhgmaa
open Go
section
variable {P : Program} {ops : Array Oper} {Q : Exit -> Act -> World -> Prop} {md : Region.Mode} {S : World -> Prop} {m : Nat}
def anyY (P : Program) (md : Region.Mode) (ops : Array Oper) (Q : Exit -> Act -> World -> Prop) (S : World -> Prop) (m : Nat) : Nat -> Array Bool -> Act -> World -> Prop
 | 0, listed, a, w => Region.ready md ops listed = [] /\ Q .normal a w
 | fuel + 1, listed, a, w =>
   (Region.ready md ops listed = [] -> Q .normal a w) /\
   ∀ i ∈ Region.ready md ops listed, wpOp P ops Q i (fun a' w' => (i ≠ m -> listed.getD m true = false -> S w') /\ anyY P md ops Q S m fuel (listed.setIfInBounds i true) a' w') a w
theorem any_of_y : ∀ (fuel : Nat) (listed : Array Bool) (a : Act) (w : World), anyY P md ops Q S m fuel listed a w -> wpAny P md ops Q fuel listed a w
 | 0, _, _, _, h => h
 | fuel + 1, _, _, _, h => ⟨h.1, fun i hi => wpOp_mono (fun a' w' h' => any_of_y fuel _ a' w' h'.2) (h.2 i hi)⟩
theorem anyY_first {i : Nat} {oi : Oper} {v : Value} (hi : ops[i]? = some oi) (hsel : ∀ (j : Nat) (o : Oper) cs b, ops[j]? = some o -> o.op ≠ .select cs b)
  (hQ : ∀ c a w, Q (.panic c) (a.put oi.dst v) w -> Q (.panic c) a w) (hw : waits md ops m i = true) :
  ∀ (fuel : Nat) (listed : Array Bool) (a : Act) (w : World),
    (∀ j oj, ops[j]? = some oj -> j ≠ i -> listed.getD j true = false -> (∀ e ∈ oj.after, Region.binds md e = true -> e.on ≠ i) -> oi.apart ops oj = true) ->
    listed.getD m true = false -> i ∈ Region.ready md ops listed -> YieldsIf P ops S oi v a -> S w ->
    anyY P md ops Q S m fuel (listed.setIfInBounds i true) (a.put oi.dst v) w -> anyY P md ops Q S m (fuel + 1) listed a w := by
  intro fuel
  induction fuel with
  | zero =>
    intro listed a w _ hm hr hy hS H
    refine ⟨fun h => (by rw [h] at hr; cases hr), fun j hj => ?_⟩
    by_cases hji : j = i
    ·subst hji; exact hy.wpOp hi hS ⟨fun _ _ => hS, H⟩
    ·have := ready_mono hj hji
     rw [H.1] at this
     cases this
  | succ fuel ih =>
    intro listed a w hfree hm hr hy hS H
    refine ⟨fun h => (by rw [h] at hr; cases hr), fun j hj => ?_⟩
    by_cases hji : j = i
    ·subst hji; exact hy.wpOp hi hS ⟨fun _ _ => hS, H⟩
    ·have hjm : j ≠ m := fun e => by subst e; exact not_ready hw hr hj
     have him : i ≠ m := fun e => by
      subst e
      exact not_ready hw hr hr
     have h1 := H.2 j (ready_mono hj hji)
     obtain ⟨hjun, oj, hoj, hall⟩ := mem_ready.1 hj
     have hnot : ∀ e ∈ oj.after, Region.binds md e = true -> e.on ≠ i := fun e he hb heq => by
      have h1 := hall e he hb
      have h0 := (mem_ready.1 hr).1
      rw [heq] at h1
      rcases Nat.lt_or_ge i listed.size with h' | h'
      ·simp [h'] at h0 h1; rw [h0] at h1; cases h1
      ·simp [Array.getElem?_eq_none h'] at h1
     have h2 := wpOp_putIf hoj (hfree j oj hoj hji hjun hnot) (fun cs b => hsel i oi cs b hi) (fun cs b => hsel j oj cs b hoj) hQ hy h1
     have hfree' : ∀ k ok, ops[k]? = some ok -> k ≠ i -> (listed.setIfInBounds j true).getD k true = false ->
       (∀ e ∈ ok.after, Region.binds md e = true -> e.on ≠ i) -> oi.apart ops ok = true := fun k ok hk hki hun hno => by
       refine hfree k ok hk hki ?_ hno
       by_cases hjk : j = k
       ·subst hjk; exact hjun
       ·rw [getD_set_ne true hjk] at hun; exact hun
     refine wpOp_mono (fun a' w' h3 => ?_) h2
     have hm1 : (listed.setIfInBounds i true).getD m true = false := by rw [getD_set_ne true him]; exact hm
     have hS' := h3.2.1 hjm hm1
     refine ⟨fun _ _ => hS', ih (listed.setIfInBounds j true) a' w' hfree' (by rw [getD_set_ne true hjm]; exact hm) (ready_mono hr (Ne.symm hji)) h3.1 hS' ?_⟩
     rw [Array.setIfInBounds_comm _ _ hji]
     exact h3.2.2
theorem anyY_take {i : Nat} {oi : Oper} {v : Value} {fuel : Nat} {listed : Array Bool} {a : Act} {w : World} (hi : ops[i]? = some oi)
  (hs : Region.noSelect ops = true) (hf : Region.free md ops listed i = true) (hr : (Region.ready md ops listed).contains i = true) (hw : waits md ops m i = true) (hm : listed.getD m true = false)
  (hQ : ∀ c a w, Q (.panic c) (a.put oi.dst v) w -> Q (.panic c) a w) (hy : YieldsIf P ops S oi v a) (hS : S w)
  (h : anyY P md ops Q S m fuel (listed.setIfInBounds i true) (a.put oi.dst v) w) : anyY P md ops Q S m (fuel + 1) listed a w :=
  anyY_first hi (Region.noSelect_spec hs) hQ hw fuel listed a w (Region.free_spec hi hf) hm (by simpa using hr) hy hS h
theorem tky {i : Nat} {oi : Oper} {v : Value} {fuel : Nat} {listed : Array Bool} {a : Act} {w : World} (hS : S w)
  (hv : ∀ w, S w -> (execOp a.eval oi).run P w = .ok (.value v) w) (h : anyY P md ops Q S m fuel (listed.setIfInBounds i true) (a.put oi.dst v) w)
  (hi : ops[i]? = some oi := by rfl) (hg : Region.wanted oi (yielded ops a.tmps) = true := by rfl)
  (hs : Region.noSelect ops = true := by kernel_rfl) (hf : Region.free md ops listed i = true := by kernel_rfl) (hr : (Region.ready md ops listed).contains i = true := by kernel_rfl) (hw : waits md ops m i = true := by kernel_rfl) (hm : listed.getD m true = false := by kernel_rfl)
  (hQ : ∀ c a w, Q (.panic c) (a.put oi.dst v) w -> Q (.panic c) a w := by exact fun _ _ _ h => h) : anyY P md ops Q S m (fuel + 1) listed a w :=
  anyY_take hi hs hf hr hw hm hQ (Or.inl ⟨hg, hv⟩) hS h
theorem anyY_first0 {i : Nat} {oi : Oper} {v : Value} (hi : ops[i]? = some oi) (hsel : ∀ (j : Nat) (o : Oper) cs b, ops[j]? = some o -> o.op ≠ .select cs b)
  (hQ : ∀ c a w, Q (.panic c) (a.put oi.dst v) w -> Q (.panic c) a w) (him : i ≠ m) :
  ∀ (fuel : Nat) (listed : Array Bool) (a : Act) (w : World),
    (∀ j oj, ops[j]? = some oj -> j ≠ i -> listed.getD j true = false -> (∀ e ∈ oj.after, Region.binds md e = true -> e.on ≠ i) -> oi.apart ops oj = true) ->
    i ∈ Region.ready md ops listed -> YieldsIf P ops (fun _ => True) oi v a -> (listed.getD m true = false -> S w) ->
    anyY P md ops Q S m fuel (listed.setIfInBounds i true) (a.put oi.dst v) w -> anyY P md ops Q S m (fuel + 1) listed a w := by
  intro fuel
  induction fuel with
  | zero =>
    intro listed a w _ hr hy hS H
    refine ⟨fun h => (by rw [h] at hr; cases hr), fun j hj => ?_⟩
    by_cases hji : j = i
    ·subst hji; exact hy.wpOp hi trivial ⟨fun _ q => hS q, H⟩
    ·have := ready_mono hj hji
     rw [H.1] at this
     cases this
  | succ fuel ih =>
    intro listed a w hfree hr hy hS H
    refine ⟨fun h => (by rw [h] at hr; cases hr), fun j hj => ?_⟩
    by_cases hji : j = i
    ·subst hji; exact hy.wpOp hi trivial ⟨fun _ q => hS q, H⟩
    ·have h1 := H.2 j (ready_mono hj hji)
     obtain ⟨hjun, oj, hoj, hall⟩ := mem_ready.1 hj
     have hnot : ∀ e ∈ oj.after, Region.binds md e = true -> e.on ≠ i := fun e he hb heq => by
      have h1 := hall e he hb
      have h0 := (mem_ready.1 hr).1
      rw [heq] at h1
      rcases Nat.lt_or_ge i listed.size with h' | h'
      ·simp [h'] at h0 h1; rw [h0] at h1; cases h1
      ·simp [Array.getElem?_eq_none h'] at h1
     have h2 := wpOp_putIf hoj (hfree j oj hoj hji hjun hnot) (fun cs b => hsel i oi cs b hi) (fun cs b => hsel j oj cs b hoj) hQ hy h1
     have hfree' : ∀ k ok, ops[k]? = some ok -> k ≠ i -> (listed.setIfInBounds j true).getD k true = false ->
       (∀ e ∈ ok.after, Region.binds md e = true -> e.on ≠ i) -> oi.apart ops ok = true := fun k ok hk hki hun hno => by
       refine hfree k ok hk hki ?_ hno
       by_cases hjk : j = k
       ·subst hjk; exact hjun
       ·rw [getD_set_ne true hjk] at hun; exact hun
     refine wpOp_mono (fun a' w' h3 => ?_) h2
     have hm1 : ∀ x, (listed.setIfInBounds i true).getD m x = listed.getD m x := fun x => getD_set_ne x him
     have hSj : j ≠ m -> listed.getD m true = false -> S w' := fun q1 q2 => h3.2.1 q1 (by rw [hm1]; exact q2)
     refine ⟨hSj, ih (listed.setIfInBounds j true) a' w' hfree' (ready_mono hr (Ne.symm hji)) h3.1 (fun q => ?_) ?_⟩
     ·by_cases hjm : j = m
      ·subst hjm
       rcases Nat.lt_or_ge j listed.size with q' | q'
       ·rw [Array.getD_eq_getD_getElem?, Array.getElem?_setIfInBounds_self_of_lt q'] at q; cases q
       ·rw [Array.getD_eq_getD_getElem?, Array.getElem?_eq_none (by simpa using q')] at q; cases q
      ·exact hSj hjm (by rw [getD_set_ne true hjm] at q; exact q)
     ·rw [Array.setIfInBounds_comm _ _ hji]
      exact h3.2.2
theorem tky0 {i : Nat} {oi : Oper} {v : Value} {fuel : Nat} {listed : Array Bool} {a : Act} {w : World} (hS : S w)
  (hv : ∀ w, True -> (execOp a.eval oi).run P w = .ok (.value v) w) (h : anyY P md ops Q S m fuel (listed.setIfInBounds i true) (a.put oi.dst v) w)
  (him : i ≠ m := by decide) (hi : ops[i]? = some oi := by rfl) (hg : Region.wanted oi (yielded ops a.tmps) = true := by rfl)
  (hs : Region.noSelect ops = true := by kernel_rfl) (hf : Region.free md ops listed i = true := by kernel_rfl) (hr : (Region.ready md ops listed).contains i = true := by kernel_rfl)
  (hQ : ∀ c a w, Q (.panic c) (a.put oi.dst v) w -> Q (.panic c) a w := by exact fun _ _ _ h => h) : anyY P md ops Q S m (fuel + 1) listed a w :=
  anyY_first0 hi (Region.noSelect_spec hs) hQ him fuel listed a w (Region.free_spec hi hf) (by simpa using hr) (Or.inl ⟨hg, hv⟩) (fun _ => hS) h
theorem anyY_g {i : Nat} {o : Oper} {fuel : Nat} {listed : Array Bool} {a : Act} {w : World} (hr : Region.ready md ops listed = [i]) (ho : ops[i]? = some o) (hg : o.guard = none)
  (h : ∀ K' : Act -> World -> Prop, (∀ a w, S w -> anyY P md ops Q S m fuel (listed.setIfInBounds i true) a w -> K' a w) -> Oper.wp P o a w K' Q) : anyY P md ops Q S m (fuel + 1) listed a w := by
  refine ⟨fun h0 => (by rw [hr] at h0; cases h0), fun j hj => ?_⟩
  rw [hr] at hj
  obtain rfl : j = i := by simpa using hj
  have hw : Region.wanted o (yielded ops a.tmps) = true := by simp [Region.wanted, hg]
  unfold wpOp
  rw [ho]
  simp only [hw, if_true]
  exact .inl (h _ fun a w hS hx => ⟨fun _ _ => hS, hx⟩)
theorem anyY_h {i : Nat} {o : Oper} {fuel : Nat} {listed : Array Bool} {a : Act} {w : World} (hr : Region.ready md ops listed = [i]) (hm : (i == m || listed.getD m true) = true) (ho : ops[i]? = some o) (hg : o.guard = none)
  (h : ∀ K' : Act -> World -> Prop, (∀ a w, anyY P md ops Q S m fuel (listed.setIfInBounds i true) a w -> K' a w) -> Oper.wp P o a w K' Q) : anyY P md ops Q S m (fuel + 1) listed a w := by
  refine ⟨fun h0 => (by rw [hr] at h0; cases h0), fun j hj => ?_⟩
  rw [hr] at hj
  obtain rfl : j = i := by simpa using hj
  have hw : Region.wanted o (yielded ops a.tmps) = true := by simp [Region.wanted, hg]
  unfold wpOp
  rw [ho]
  simp only [hw, if_true]
  refine .inl (h _ fun a w hx => ⟨fun e1 e2 => ?_, hx⟩)
  rw [Bool.or_eq_true, beq_iff_eq] at hm
  rcases hm with q | q
  ·exact absurd q e1
  ·rw [q] at e2; cases e2
theorem anyY_last {i : Nat} {o : Oper} {fuel : Nat} {listed : Array Bool} {a : Act} {w : World} (hr : Region.ready md ops listed = [i]) (hr2 : Region.ready md ops (listed.setIfInBounds i true) = []) (hm : (i == m || listed.getD m true) = true) (ho : ops[i]? = some o) (hg : o.guard = none)
  (h : Oper.wp P o a w (Q .normal) Q) : anyY P md ops Q S m (fuel + 1) listed a w := by
  refine anyY_h hr hm ho hg fun K' hK => Oper.wp_mono (fun a w hq => hK a w ?_) h
  cases fuel with
  | zero => exact ⟨hr2, hq⟩
  | succ f => exact ⟨fun _ => hq, by rw [hr2]; simp⟩
theorem anyY_2 {i j : Nat} {oi oj : Oper} {fuel : Nat} {listed : Array Bool} {a : Act} {w : World} (hr : Region.ready md ops listed = [i, j])
  (hoi : ops[i]? = some oi) (hoj : ops[j]? = some oj) (hwi : oi.guard = none) (hwj : oj.guard = none)
  (h1 : ∀ K' : Act -> World -> Prop, (∀ a w, S w -> anyY P md ops Q S m fuel (listed.setIfInBounds i true) a w -> K' a w) -> Oper.wp P oi a w K' Q)
  (h2 : ∀ K' : Act -> World -> Prop, (∀ a w, S w -> anyY P md ops Q S m fuel (listed.setIfInBounds j true) a w -> K' a w) -> Oper.wp P oj a w K' Q) : anyY P md ops Q S m (fuel + 1) listed a w := by
  refine ⟨fun h0 => (by rw [hr] at h0; cases h0), fun k hk => ?_⟩
  rw [hr] at hk
  have hk' : k = i \/ k = j := by simpa using hk
  rcases hk' with rfl | rfl
  ·have hw : Region.wanted oi (yielded ops a.tmps) = true := by simp [Region.wanted, hwi]
   unfold wpOp
   rw [hoi]
   simp only [hw, if_true]
   exact .inl (h1 _ fun a w hS hx => ⟨fun _ _ => hS, hx⟩)
  ·have hw : Region.wanted oj (yielded ops a.tmps) = true := by simp [Region.wanted, hwj]
   unfold wpOp
   rw [hoj]
   simp only [hw, if_true]
   exact .inl (h2 _ fun a w hS hx => ⟨fun _ _ => hS, hx⟩)
theorem region_y {id : Nat} {a : Act} {w : World} (m : Nat) (S : World -> Prop) (hm : P.follows .mixedOrders = true)
  (h : anyY P .any ops Q S m ops.size (Array.replicate ops.size false) a w.drew) : (Code.region id ops true).wp P Q a w :=
  wp_region_any hm (any_of_y _ _ _ _ h)
theorem region_yq {π : Type} {id : Nat} {a : Act} {w : World} (m : Nat) (S : World -> Prop) (mk : π -> Act -> Act) (F Pre : π -> World -> Prop) (fuel : Nat) (L : Array Bool) (hm : P.follows .mixedOrders = true)
  (hleaf : ∀ p W, Pre p W -> anyY P .any ops (Ends_ mk F a Q) S m fuel L (mk p a) W)
  (h : (∀ p W, Pre p W -> anyY P .any ops (Ends_ mk F a Q) S m fuel L (mk p a) W) -> anyY P .any ops (Ends_ mk F a Q) S m ops.size (Array.replicate ops.size false) a w.drew) (hR : ∀ p w', F p w' -> Q .normal (mk p a) w') : (Code.region id ops true).wp P Q a w :=
  Code.wp_mono (fun e a' w' q => by
   rcases q with ⟨p, rfl, rfl, hf⟩ | ⟨_, q⟩
   ·exact hR p w' hf
   ·exact q) (region_y m S hm (h hleaf))
end
end Go.Proofs.Ytacgakkcpmhgmaa
namespace Go.Proofs.Ytacgakkcpmhgmaa
open Go
section
variable {P : Program} {ops : Array Oper} {Q : Exit -> Act -> World -> Prop} {md : Region.Mode} {S : World -> Prop} {m : Nat} {G : List Nat}
theorem anyY_firstG {i : Nat} {oi : Oper} {v : Value} (hi : ops[i]? = some oi) (hsel : ∀ (j : Nat) (o : Oper) cs b, ops[j]? = some o -> o.op ≠ .select cs b)
  (hQ : ∀ c a w, Q (.panic c) (a.put oi.dst v) w -> Q (.panic c) a w) (hw : gated md ops m G i = true) :
  ∀ (fuel : Nat) (listed : Array Bool) (a : Act) (w : World),
    (∀ j oj, ops[j]? = some oj -> j ≠ i -> listed.getD j true = false -> (∀ e ∈ oj.after, Region.binds md e = true -> e.on ≠ i) -> oi.apart ops oj = true) ->
    listed.getD m true = false -> (∀ g ∈ G, listed.getD g true = false) -> i ∈ Region.ready md ops listed -> YieldsIf P ops S oi v a -> S w ->
    anyY P md ops Q S m fuel (listed.setIfInBounds i true) (a.put oi.dst v) w -> anyY P md ops Q S m (fuel + 1) listed a w := by
  intro fuel
  induction fuel with
  | zero =>
    intro listed a w _ hm _ hr hy hS H
    refine ⟨fun h => (by rw [h] at hr; cases hr), fun j hj => ?_⟩
    by_cases hji : j = i
    ·subst hji; exact hy.wpOp hi hS ⟨fun _ _ => hS, H⟩
    ·have := ready_mono hj hji
     rw [H.1] at this
     cases this
  | succ fuel ih =>
    intro listed a w hfree hm hG hr hy hS H
    refine ⟨fun h => (by rw [h] at hr; cases hr), fun j hj => ?_⟩
    by_cases hji : j = i
    ·subst hji; exact hy.wpOp hi hS ⟨fun _ _ => hS, H⟩
    ·have hun0 := (mem_ready.1 hr).1
     have hjm : j ≠ m := fun e => by subst e; exact gated_m hw hun0 hG hj
     have him : i ≠ m := fun e => by subst e; exact gated_m hw hun0 hG hr
     have hjG : ∀ g ∈ G, j ≠ g := fun g hg e => by subst e; exact gated_g hw hun0 hG j hg hj
     have h1 := H.2 j (ready_mono hj hji)
     obtain ⟨hjun, oj, hoj, hall⟩ := mem_ready.1 hj
     have hnot : ∀ e ∈ oj.after, Region.binds md e = true -> e.on ≠ i := fun e he hb heq => by
      have h1 := hall e he hb
      have h0 := (mem_ready.1 hr).1
      rw [heq] at h1
      rcases Nat.lt_or_ge i listed.size with h' | h'
      ·simp [h'] at h0 h1; rw [h0] at h1; cases h1
      ·simp [Array.getElem?_eq_none h'] at h1
     have h2 := wpOp_putIf hoj (hfree j oj hoj hji hjun hnot) (fun cs b => hsel i oi cs b hi) (fun cs b => hsel j oj cs b hoj) hQ hy h1
     have hfree' : ∀ k ok, ops[k]? = some ok -> k ≠ i -> (listed.setIfInBounds j true).getD k true = false ->
       (∀ e ∈ ok.after, Region.binds md e = true -> e.on ≠ i) -> oi.apart ops ok = true := fun k ok hk hki hun hno => by
       refine hfree k ok hk hki ?_ hno
       by_cases hjk : j = k
       ·subst hjk; exact hjun
       ·rw [getD_set_ne true hjk] at hun; exact hun
     have hG' : ∀ g ∈ G, (listed.setIfInBounds j true).getD g true = false := fun g hg => by
      rw [getD_set_ne true (hjG g hg)]; exact hG g hg
     refine wpOp_mono (fun a' w' h3 => ?_) h2
     have hm1 : (listed.setIfInBounds i true).getD m true = false := by rw [getD_set_ne true him]; exact hm
     have hS' := h3.2.1 hjm hm1
     refine ⟨fun _ _ => hS', ih (listed.setIfInBounds j true) a' w' hfree' (by rw [getD_set_ne true hjm]; exact hm) hG' (ready_mono hr (Ne.symm hji)) h3.1 hS' ?_⟩
     rw [Array.setIfInBounds_comm _ _ hji]
     exact h3.2.2
theorem tkyg (G : List Nat) {i : Nat} {oi : Oper} {v : Value} {fuel : Nat} {listed : Array Bool} {a : Act} {w : World} (hS : S w)
  (hv : ∀ w, S w -> (execOp a.eval oi).run P w = .ok (.value v) w) (h : anyY P md ops Q S m fuel (listed.setIfInBounds i true) (a.put oi.dst v) w)
  (hi : ops[i]? = some oi := by rfl) (hg : Region.wanted oi (yielded ops a.tmps) = true := by rfl)
  (hs : Region.noSelect ops = true := by kernel_rfl) (hf : Region.free md ops listed i = true := by kernel_rfl) (hr : (Region.ready md ops listed).contains i = true := by kernel_rfl) (hw : gated md ops m G i = true := by kernel_rfl) (hm : listed.getD m true = false := by kernel_rfl) (hG : (G.all fun g => !(listed.getD g true)) = true := by kernel_rfl)
  (hQ : ∀ c a w, Q (.panic c) (a.put oi.dst v) w -> Q (.panic c) a w := by exact fun _ _ _ h => h) : anyY P md ops Q S m (fuel + 1) listed a w :=
  anyY_firstG hi (Region.noSelect_spec hs) hQ hw fuel listed a w (Region.free_spec hi hf) hm (fun g hg => by
   have := List.all_eq_true.1 hG g hg
   simpa using this) (by simpa using hr) (Or.inl ⟨hg, hv⟩) hS h
end
end Go.Proofs.Ytacgakkcpmhgmaa
