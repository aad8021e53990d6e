/- Regions that draw their order and whose last operation hits what they load, where that one waits for the others by way of gates only: operations that all the others come ahead of. -/
import Derived.Test.YtalgnnidhnhciaaGreatDoorLastFree
set_option linter.unusedVariables false
set_option linter.unusedSimpArgs false
namespace Go.Proofs.YtalgnnidhnhciaaGreatDoor
open Go

section
variable {P : Program} {ops : Array Oper} {Q : Exit → Act → World → Prop} {md : Region.Mode} {S : World → Prop} {m : Nat} {G : List Nat}

/-- While i is open no gate may come up, nor may m. -/
def gated (md : Region.Mode) (ops : Array Oper) (m : Nat) (G : List Nat) (i : Nat) : Bool :=
  (waits md ops m i || G.any fun g => waits md ops m g) && G.all fun g => waits md ops g i || G.any fun g' => waits md ops g g'
theorem not_ready' {x i : Nat} {listed : Array Bool} (h : waits md ops x i = true) (hi : listed.getD i true = false) : x ∉ Region.ready md ops listed := by
  intro hm
  obtain ⟨_, om, hom, hall⟩ := mem_ready.1 hm
  unfold waits at h
  rw [hom] at h
  simp only [Option.map_some, Option.getD_some, Array.any_eq_true, Bool.and_eq_true, beq_iff_eq] at h
  obtain ⟨k, hk, hb, he⟩ := h
  have h1 := hall om.after[k] (Array.getElem_mem hk) hb
  rw [he] at h1
  rcases Nat.lt_or_ge i listed.size with h' | h'
  · simp [h'] at hi h1; rw [hi] at h1; cases h1
  · simp [Array.getElem?_eq_none h'] at h1
theorem gated_m {i : Nat} {listed : Array Bool} (h : gated md ops m G i = true) (hi : listed.getD i true = false) (hG : ∀ g ∈ G, listed.getD g true = false) : m ∉ Region.ready md ops listed := by
  simp only [gated, Bool.and_eq_true, Bool.or_eq_true, List.any_eq_true] at h
  rcases h.1 with h | ⟨g, hg, h⟩
  · exact not_ready' h hi
  · exact not_ready' h (hG g hg)
theorem gated_g {i : Nat} {listed : Array Bool} (h : gated md ops m G i = true) (hi : listed.getD i true = false) (hG : ∀ g ∈ G, listed.getD g true = false) : ∀ g ∈ G, g ∉ Region.ready md ops listed := by
  simp only [gated, Bool.and_eq_true, List.all_eq_true, Bool.or_eq_true, List.any_eq_true] at h
  intro g hg
  rcases h.2 g hg with h | ⟨g', hg', h⟩
  · exact not_ready' h hi
  · exact not_ready' h (hG g' hg')

theorem anyX_firstG {i : Nat} {oi : Oper} {v : Value} (hi : ops[i]? = some oi) (hsel : ∀ (j : Nat) (o : Oper) cs b, ops[j]? = some o → o.op ≠ .select cs b)
    (hQ : ∀ c a w, Q (.panic c) (a.put oi.dst v) w → Q (.panic c) a w) (hw : gated md ops m G i = true) :
    ∀ (fuel : Nat) (listed : Array Bool) (a : Act) (w : World),
      (∀ j oj, ops[j]? = some oj → j ≠ i → listed.getD j true = false → (∀ e ∈ oj.after, Region.binds md e = true → e.on ≠ i) → oi.apart ops oj = true) →
      (∀ g ∈ G, listed.getD g true = false) → i ∈ Region.ready md ops listed → YieldsIf P ops S oi v a → S w →
      anyX P md ops Q S m fuel (listed.setIfInBounds i true) (a.put oi.dst v) w → anyX P md ops Q S m (fuel + 1) listed a w := by
  intro fuel
  induction fuel with
  | zero =>
    intro listed a w _ _ hr hy hS H
    refine ⟨fun h => (by rw [h] at hr; cases hr), fun j hj => ?_⟩
    by_cases hji : j = i
    · subst hji; exact hy.wpOp hi hS ⟨fun _ => hS, H⟩
    · have := ready_mono hj hji
      rw [H.1] at this
      cases this
  | succ fuel ih =>
    intro listed a w hfree hG hr hy hS H
    refine ⟨fun h => (by rw [h] at hr; cases hr), fun j hj => ?_⟩
    by_cases hji : j = i
    · subst hji; exact hy.wpOp hi hS ⟨fun _ => hS, H⟩
    · have hun0 := (mem_ready.1 hr).1
      have hjm : j ≠ m := fun e => by subst e; exact gated_m hw hun0 hG hj
      have hjG : ∀ g ∈ G, j ≠ g := fun g hg e => by subst e; exact gated_g hw hun0 hG j hg hj
      have h1 := H.2 j (ready_mono hj hji)
      obtain ⟨hjun, oj, hoj, hall⟩ := mem_ready.1 hj
      have hnot : ∀ e ∈ oj.after, Region.binds md e = true → e.on ≠ i := fun e he hb heq => by
        have h1 := hall e he hb
        have h0 := (mem_ready.1 hr).1
        rw [heq] at h1
        rcases Nat.lt_or_ge i listed.size with h' | h'
        · simp [h'] at h0 h1; rw [h0] at h1; cases h1
        · simp [Array.getElem?_eq_none h'] at h1
      have h2 := wpOp_putIf hoj (hfree j oj hoj hji hjun hnot) (fun cs b => hsel i oi cs b hi) (fun cs b => hsel j oj cs b hoj) hQ hy h1
      have hfree' : ∀ k ok, ops[k]? = some ok → k ≠ i → (listed.setIfInBounds j true).getD k true = false →
          (∀ e ∈ ok.after, Region.binds md e = true → e.on ≠ i) → oi.apart ops ok = true := fun k ok hk hki hun hno => by
        refine hfree k ok hk hki ?_ hno
        by_cases hjk : j = k
        · subst hjk; exact hjun
        · rw [getD_set_ne true hjk] at hun; exact hun
      have hG' : ∀ g ∈ G, (listed.setIfInBounds j true).getD g true = false := fun g hg => by
        rw [getD_set_ne true (hjG g hg)]; exact hG g hg
      refine wpOp_mono (fun a' w' h3 => ?_) h2
      have hS' := h3.2.1 hjm
      refine ⟨fun _ => hS', ih (listed.setIfInBounds j true) a' w' hfree' hG' (ready_mono hr (Ne.symm hji)) h3.1 hS' ?_⟩
      rw [Array.setIfInBounds_comm _ _ hji]
      exact h3.2.2

/-- Take number i first. -/
theorem anyX_takeG (G : List Nat) {i : Nat} {oi : Oper} {v : Value} {fuel : Nat} {listed : Array Bool} {a : Act} {w : World} (hi : ops[i]? = some oi)
    (hs : Region.noSelect ops = true) (hf : Region.free md ops listed i = true) (hr : (Region.ready md ops listed).contains i = true) (hw : gated md ops m G i = true) (hG : (G.all fun g => !(listed.getD g true)) = true)
    (hQ : ∀ c a w, Q (.panic c) (a.put oi.dst v) w → Q (.panic c) a w) (hy : YieldsIf P ops S oi v a) (hS : S w)
    (h : anyX P md ops Q S m fuel (listed.setIfInBounds i true) (a.put oi.dst v) w) : anyX P md ops Q S m (fuel + 1) listed a w :=
  anyX_firstG hi (Region.noSelect_spec hs) hQ hw fuel listed a w (Region.free_spec hi hf) (fun g hg => by
    have := List.all_eq_true.1 hG g hg
    simpa using this) (by simpa using hr) hy hS h
end
end Go.Proofs.YtalgnnidhnhciaaGreatDoor
