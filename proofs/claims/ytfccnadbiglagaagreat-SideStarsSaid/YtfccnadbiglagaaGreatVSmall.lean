/- A scope in which the run jumps back to either of two labels, 0 and 1: what holds at each jump, and a measure that every pass lowers. After the library's law for one label. What a law's walk is told of a slice of integers that came in. Bits of an int: masks and joins. -/
import Derived.Test.YtfccnadbiglagaaGreatProg
import Derived.ScopeJumps
import Derived.WalkMore
import Derived.WalkKit
import Derived.Laws.BitsLemmas
set_option linter.unusedVariables false
set_option linter.unusedSimpArgs false
namespace Go.Proofs.YtfccnadbiglagaaGreat
open Go
def jump2 (J0 J1 : Act -> World -> Prop) (Q : Exit -> Act -> World -> Prop) : Exit -> Act -> World -> Prop
 | .goto 0, a, w => J0 a w
 | .goto 1, a, w => J1 a w
 | .goto _, _, _ => False
 | e, a, w => Q e a w
section
variable {P : Program} {a : Act} {w : World} {Q : Exit -> Act -> World -> Prop}
theorem wp_scope_two {c rest0 rest1 : Code} (J0 J1 : Act -> World -> Prop) (μ : Act -> World -> Nat) (hf0 : findLabel c 0 = some rest0) (hf1 : findLabel c 1 = some rest1)
  (first : c.wp P (jump2 J0 J1 Q) a w)
  (pass0 : ∀ a w, J0 a w -> rest0.wp P (jump2 (fun a' w' => J0 a' w' /\ μ a' w' < μ a w) (fun a' w' => J1 a' w' /\ μ a' w' < μ a w) Q) a w)
  (pass1 : ∀ a w, J1 a w -> rest1.wp P (jump2 (fun a' w' => J0 a' w' /\ μ a' w' < μ a w) (fun a' w' => J1 a' w' /\ μ a' w' < μ a w) Q) a w) : (Code.scope c).wp P Q a w := by
  intro b k cs
  have hg0 : gotoIn 0 (.inScope c :: k) = some (.code rest0 :: .inScope c :: k) := by simp [gotoIn, hf0]
  have hg1 : gotoIn 1 (.inScope c :: k) = some (.code rest1 :: .inScope c :: k) := by simp [gotoIn, hf1]
  have key : ∀ n a w, μ a w = n -> (J0 a w -> ∃ e a' w', Q e a' w' /\ Arrives P (lone (b.at a (.code rest0 :: .inScope c :: k)) cs w) b k cs e a' w') /\ (J1 a w -> ∃ e a' w', Q e a' w' /\ Arrives P (lone (b.at a (.code rest1 :: .inScope c :: k)) cs w) b k cs e a' w') := by
   intro n
   induction n using Nat.strongRecOn with
   | _ n ih =>
     intro a w hn
     have go : ∀ rest : Code, rest.wp P (jump2 (fun a' w' => J0 a' w' /\ μ a' w' < μ a w) (fun a' w' => J1 a' w' /\ μ a' w' < μ a w) Q) a w -> ∃ e a' w', Q e a' w' /\ Arrives P (lone (b.at a (.code rest :: .inScope c :: k)) cs w) b k cs e a' w' := by
      intro rest hp
      obtain ⟨e, a₁, w₁, hq, harr⟩ := hp b (.inScope c :: k) cs
      cases e with
      | normal => exact ⟨.normal, a₁, w₁, hq, Steps.trans harr (.one step_inScope)⟩
      | exit id => exact ⟨.exit id, a₁, w₁, hq, fun k' hk => harr k' (by simp [exitTo, hk])⟩
      | goto l' =>
        match l', hq with
        | 0, hq =>
          obtain ⟨hJ', hlt⟩ := hq
          obtain ⟨e₂, a₂, w₂, hq₂, harr₂⟩ := (ih _ (by omega) a₁ w₁ rfl).1 hJ'
          exact ⟨e₂, a₂, w₂, hq₂, .of_steps (harr _ hg0) harr₂⟩
        | 1, hq =>
          obtain ⟨hJ', hlt⟩ := hq
          obtain ⟨e₂, a₂, w₂, hq₂, harr₂⟩ := (ih _ (by omega) a₁ w₁ rfl).2 hJ'
          exact ⟨e₂, a₂, w₂, hq₂, .of_steps (harr _ hg1) harr₂⟩
        | l + 2, hq => exact hq.elim
      | ret => exact ⟨_, a₁, w₁, hq, harr⟩
      | panic ch => exact ⟨_, a₁, w₁, hq, harr⟩
      | outgrown => exact ⟨_, a₁, w₁, hq, harr⟩
     exact ⟨fun hJ => go _ (pass0 a w hJ), fun hJ => go _ (pass1 a w hJ)⟩
  obtain ⟨e, a₁, w₁, hq, harr⟩ := first b (.inScope c :: k) cs
  cases e with
  | normal => exact ⟨.normal, a₁, w₁, hq, .head step_scope (Steps.trans harr (.one step_inScope))⟩
  | exit id => exact ⟨.exit id, a₁, w₁, hq, fun k' hk => .head step_scope (harr k' (by simp [exitTo, hk]))⟩
  | goto l' =>
    match l', hq with
    | 0, hq =>
      obtain ⟨e₂, a₂, w₂, hq₂, harr₂⟩ := (key _ a₁ w₁ rfl).1 hq
      exact ⟨e₂, a₂, w₂, hq₂, .of_steps (.head step_scope (harr _ hg0)) harr₂⟩
    | 1, hq =>
      obtain ⟨e₂, a₂, w₂, hq₂, harr₂⟩ := (key _ a₁ w₁ rfl).2 hq
      exact ⟨e₂, a₂, w₂, hq₂, .of_steps (.head step_scope (harr _ hg1)) harr₂⟩
    | l + 2, hq => exact hq.elim
  | ret => exact ⟨_, a₁, w₁, hq, .of_steps (.one step_scope) harr⟩
  | panic ch => exact ⟨_, a₁, w₁, hq, .of_steps (.one step_scope) harr⟩
  | outgrown => exact ⟨_, a₁, w₁, hq, .of_steps (.one step_scope) harr⟩
end
end Go.Proofs.YtfccnadbiglagaaGreat
namespace Go.Proofs.YtfccnadbiglagaaGreat
open Go Go.RowKit
def IsRow (k : IntKind) (w : World) (a : Option Addr) (len cap : Nat) (zs : List Int) : Prop :=
 (a = none /\ len = 0 /\ cap = 0 /\ zs = []) \/
 ∃ x, a = some x /\ len <= cap /\ cap <= maxLen /\ zs.length = cap /\ (∀ i, i < zs.length -> w.cell? (x.add i) = some (.int k (zs.getD i 0))) /\ ∀ n ∈ zs, (Lit.int k n).wf = true
theorem IsRow.at {k : IntKind} {w : World} {a : Option Addr} {len cap : Nat} {zs : List Int} (h : IsRow k w a len cap zs) (i : Nat) (hi : i < len) :
  ∃ b off, a = some ⟨b, off, none⟩ /\ b < w.heap.size /\ (∀ j, j < len -> w.cell? ⟨b, off + j, none⟩ = some (.int k (zs.getD j 0))) /\ (∀ j, j < len -> (Lit.int k (zs.getD j 0)).wf = true) := by
  rcases h with ⟨rfl, rfl, rfl, rfl⟩ | ⟨x, rfl, hl, hm, hz, hc, hw⟩
  ·omega
  ·obtain ⟨b, off, spot⟩ := x
   have h0 := hc 0 (by omega)
   have hspot : spot = none := by simpa [Addr.add] using World.cell?_spot h0
   subst hspot
   have hcell : ∀ j, j < len -> w.cell? ⟨b, off + j, none⟩ = some (.int k (zs.getD j 0)) := fun j hj => by
    have e : (⟨b, off, none⟩ : Addr).add j = ⟨b, off + j, none⟩ := by unfold Addr.add; split <;> simp_all
    rw [<- e]; exact hc j (by omega)
   refine ⟨b, off, rfl, World.block_lt_of_cell? w _ (hcell 0 (by omega)), hcell, fun j hj => hw _ ?_⟩
   have hj2 : j < zs.length := by omega
   have e : zs.getD j 0 = zs[j] := by simp [List.getD, List.getElem?_eq_getElem hj2]
   rw [e]
   exact List.getElem_mem _
end Go.Proofs.YtfccnadbiglagaaGreat
namespace Go.Proofs.YtfccnadbiglagaaGreat
open Go
theorem wraps_i64 (n : Int) (h₀ : 0 <= n) (h₁ : n < 2 ^ 63) : IntKind.i64.wrap n = n := by rw [IntKind.wrap_i64]; omega
section
variable (x y : Int)
end
end Go.Proofs.YtfccnadbiglagaaGreat
