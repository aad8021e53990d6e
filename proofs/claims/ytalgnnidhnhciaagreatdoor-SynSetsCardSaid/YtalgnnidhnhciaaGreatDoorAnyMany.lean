/- Regions that draw their order where memory may be made in any order: what holds behind them, said once; several operations that may come up. -/
import Derived.Test.YtalgnnidhnhciaaGreatDoorLastGate
set_option linter.unusedVariables false
set_option linter.unusedSimpArgs false
namespace Go.Proofs.YtalgnnidhnhciaaGreatDoor
open Go

section
variable {P : Program} {ops : Array Oper} {Q : Exit → Act → World → Prop} {S : World → Prop} {m : Nat}

/-- What is asked behind the region's ways: one of the forms that mk tells, in a world that F holds in. -/
def Ends_ {π : Type} (mk : π → Act → Act) (F : π → World → Prop) (a : Act) (Q : Exit → Act → World → Prop) : Exit → Act → World → Prop :=
  fun e a' w' => (∃ p, e = .normal ∧ a' = mk p a ∧ F p w') ∨ (e ≠ .normal ∧ Q e a' w')
theorem region_xp {π : Type} {id : Nat} {a : Act} {w : World} (m : Nat) (S : World → Prop) (mk : π → Act → Act) (F : π → World → Prop) (hm : P.follows .mixedOrders = true)
    (h : anyX P .any ops (Ends_ mk F a Q) S m ops.size (Array.replicate ops.size false) a w.drew) (hR : ∀ p w', F p w' → Q .normal (mk p a) w') : (Code.region id ops true).wp P Q a w :=
  Code.wp_mono (fun e a' w' q => by
    rcases q with ⟨p, rfl, rfl, hf⟩ | ⟨_, q⟩
    · exact hR p w' hf
    · exact q) (region_x m S hm h)
/-- .. with a last part that is gone once. -/
theorem region_xq {π : Type} {id : Nat} {a : Act} {w : World} (m : Nat) (S : World → Prop) (mk : π → Act → Act) (F Pre : π → World → Prop) (fuel : Nat) (L : Array Bool) (hm : P.follows .mixedOrders = true)
    (hleaf : ∀ p W, Pre p W → anyX P .any ops (Ends_ mk F a Q) S m fuel L (mk p a) W)
    (h : (∀ p W, Pre p W → anyX P .any ops (Ends_ mk F a Q) S m fuel L (mk p a) W) → anyX P .any ops (Ends_ mk F a Q) S m ops.size (Array.replicate ops.size false) a w.drew) (hR : ∀ p w', F p w' → Q .normal (mk p a) w') : (Code.region id ops true).wp P Q a w :=
  region_xp m S mk F hm (h hleaf) hR
theorem ends_panic {π : Type} {mk : π → Act → Act} {F : π → World → Prop} {a0 : Act} (dst : Option Tmp) (v : Value) (hQ : ∀ c a w, Q (.panic c) (a.put dst v) w → Q (.panic c) a w) :
    ∀ c a w, Ends_ mk F a0 Q (.panic c) (a.put dst v) w → Ends_ mk F a0 Q (.panic c) a w := by
  intro c a w h
  rcases h with ⟨p, e, _⟩ | ⟨e, q⟩
  · cases e
  · exact .inr ⟨e, hQ c a w q⟩

variable {md : Region.Mode}
theorem anyX_2 {i j : Nat} {oi oj : Oper} {fuel : Nat} {listed : Array Bool} {a : Act} {w : World} (hr : Region.ready md ops listed = [i, j]) (hi : i ≠ m) (hj : j ≠ m)
    (hoi : ops[i]? = some oi) (hoj : ops[j]? = some oj) (hwi : oi.guard = none) (hwj : oj.guard = none)
    (h1 : ∀ K' : Act → World → Prop, (∀ a w, S w → anyX P md ops Q S m fuel (listed.setIfInBounds i true) a w → K' a w) → Oper.wp P oi a w K' Q)
    (h2 : ∀ K' : Act → World → Prop, (∀ a w, S w → anyX P md ops Q S m fuel (listed.setIfInBounds j true) a w → K' a w) → Oper.wp P oj a w K' Q) : anyX P md ops Q S m (fuel + 1) listed a w := by
  refine ⟨fun h0 => (by rw [hr] at h0; cases h0), fun k hk => ?_⟩
  rw [hr] at hk
  have hk' : k = i ∨ k = j := by simpa using hk
  rcases hk' with rfl | rfl
  · have hw : Region.wanted oi (yielded ops a.tmps) = true := by simp [Region.wanted, hwi]
    unfold wpOp
    rw [hoi]
    simp only [hw, if_true]
    exact .inl (h1 _ fun a w hS hx => ⟨fun _ => hS, hx⟩)
  · have hw : Region.wanted oj (yielded ops a.tmps) = true := by simp [Region.wanted, hwj]
    unfold wpOp
    rw [hoj]
    simp only [hw, if_true]
    exact .inl (h2 _ fun a w hS hx => ⟨fun _ => hS, hx⟩)
theorem anyX_3 {i j l : Nat} {oi oj ol : Oper} {fuel : Nat} {listed : Array Bool} {a : Act} {w : World} (hr : Region.ready md ops listed = [i, j, l]) (hi : i ≠ m) (hj : j ≠ m) (hl : l ≠ m)
    (hoi : ops[i]? = some oi) (hoj : ops[j]? = some oj) (hol : ops[l]? = some ol) (hwi : oi.guard = none) (hwj : oj.guard = none) (hwl : ol.guard = none)
    (h1 : ∀ K' : Act → World → Prop, (∀ a w, S w → anyX P md ops Q S m fuel (listed.setIfInBounds i true) a w → K' a w) → Oper.wp P oi a w K' Q)
    (h2 : ∀ K' : Act → World → Prop, (∀ a w, S w → anyX P md ops Q S m fuel (listed.setIfInBounds j true) a w → K' a w) → Oper.wp P oj a w K' Q)
    (h3 : ∀ K' : Act → World → Prop, (∀ a w, S w → anyX P md ops Q S m fuel (listed.setIfInBounds l true) a w → K' a w) → Oper.wp P ol a w K' Q) : anyX P md ops Q S m (fuel + 1) listed a w := by
  refine ⟨fun h0 => (by rw [hr] at h0; cases h0), fun k hk => ?_⟩
  rw [hr] at hk
  have hk' : k = i ∨ k = j ∨ k = l := by simpa using hk
  rcases hk' with rfl | rfl | rfl
  · have hw : Region.wanted oi (yielded ops a.tmps) = true := by simp [Region.wanted, hwi]
    unfold wpOp
    rw [hoi]
    simp only [hw, if_true]
    exact .inl (h1 _ fun a w hS hx => ⟨fun _ => hS, hx⟩)
  · have hw : Region.wanted oj (yielded ops a.tmps) = true := by simp [Region.wanted, hwj]
    unfold wpOp
    rw [hoj]
    simp only [hw, if_true]
    exact .inl (h2 _ fun a w hS hx => ⟨fun _ => hS, hx⟩)
  · have hw : Region.wanted ol (yielded ops a.tmps) = true := by simp [Region.wanted, hwl]
    unfold wpOp
    rw [hol]
    simp only [hw, if_true]
    exact .inl (h3 _ fun a w hS hx => ⟨fun _ => hS, hx⟩)
end
end Go.Proofs.YtalgnnidhnhciaaGreatDoor
