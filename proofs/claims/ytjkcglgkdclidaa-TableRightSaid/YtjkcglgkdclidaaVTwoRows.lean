/- Two rows of the call's own that lie apart, appended to in a region that draws its order. -/
import Derived.Test.YtjkcglgkdclidaaVMiniA
import Derived.Test.YtjkcglgkdclidaaVLastY
set_option linter.unusedVariables false
set_option linter.unusedSimpArgs false
namespace Go.Proofs.Ytjkcglgkdclidaa
open Go Go.RowKit Go.Proofs
structure TwoRows (B : Nat) (e1 e2 : TypeId) (w0 : World) (v0 u0 : Value) (W : World) (v : Value) (n : Nat) (xs : List Value) (u : Value) (m : Nat) (ys : List Value) : Prop where
 own1 : W.ownsRow B e1 1 v n xs
 own2 : W.ownsRow B e2 1 u m ys
 ap : Apart v u
 fr : Fr (fun k => v0.ownBlock = some k \/ u0.ownBlock = some k) w0 W
 n1 : ∀ k, v.ownBlock = some k -> v0.ownBlock = some k \/ w0.heap.size <= k
 n2 : ∀ k, u.ownBlock = some k -> u0.ownBlock = some k \/ w0.heap.size <= k
 bB : B <= w0.heap.size
section
variable {B n m : Nat} {e1 e2 : TypeId} {w0 W W' : World} {v0 u0 v u : Value} {xs ys : List Value}
theorem TwoRows.start (h1 : w0.ownsRow B e1 1 v0 n xs) (h2 : w0.ownsRow B e2 1 u0 m ys) (h : Apart v0 u0) (hB : B <= w0.heap.size) : TwoRows B e1 e2 w0 v0 u0 w0 v0 n xs u0 m ys :=
 ⟨h1, h2, h, Fr.refl _ _, fun _ h => .inl h, fun _ h => .inl h, hB⟩
theorem TwoRows.drew (h : TwoRows B e1 e2 w0 v0 u0 W v n xs u m ys) : TwoRows B e1 e2 w0 v0 u0 W.drew v n xs u m ys :=
 ⟨h.own1.drew, h.own2.drew, h.ap, h.fr.drew, h.n1, h.n2, h.bB⟩
theorem ownsRow_bel {e : TypeId} {sz : Nat} (h : W.ownsRow B e sz v n xs) (hb : Below W.heap.size W W') : W'.ownsRow B e sz v n xs := by
 have hlt := h.lt
 obtain ⟨h1, h2⟩ := h
 refine ⟨h1, ?_⟩
 rcases h2 with h2 | ⟨g, cap, cur, rfl, hg, hh, r⟩
 ·exact .inl h2
 ·exact .inr ⟨g, cap, cur, rfl, hg, by rw [hb.block g (hlt g rfl).2]; exact hh, r⟩
theorem TwoRows.bel (h : TwoRows B e1 e2 w0 v0 u0 W v n xs u m ys) (hb : Below W.heap.size W W') : TwoRows B e1 e2 w0 v0 u0 W' v n xs u m ys :=
 ⟨ownsRow_bel h.own1 hb, ownsRow_bel h.own2 hb, h.ap, h.fr.trans (Fr.of_below hb), h.n1, h.n2, h.bB⟩
theorem TwoRows.push1 (h : TwoRows B e1 e2 w0 v0 u0 W v n xs u m ys) {g cap : Nat} {zs : List Value} (ho : W'.ownsRow B e1 1 (.slice (some ⟨g, 0, none⟩) (n + 1) cap) (n + 1) zs) (hg : W.grownBy W' v.ownBlock) (hat : v.ownBlock = some g \/ g = W.heap.size) :
  TwoRows B e1 e2 w0 v0 u0 W' (.slice (some ⟨g, 0, none⟩) (n + 1) cap) (n + 1) zs u m ys := by
  obtain ⟨k1, k2⟩ := apart_lies (N := n + 1) (cap := cap) h.ap h.own2 hg hat rfl
  refine ⟨ho, k1, k2, h.fr.then_ (Fr.of_grown (X := fun k => v.ownBlock = some k) hg (fun k hk => hk)) (fun k hk hv => ?_), fun k hk => ?_, h.n2, h.bB⟩
  ·rcases h.n1 k hv with q | q
   ·exact .inl q
   ·omega
  ·have : g = k := by simpa [Value.ownBlock] using hk
   subst this
   rcases hat with q | q
   ·exact h.n1 g q
   ·exact .inr (by have := h.fr.size; omega)
theorem TwoRows.push2 (h : TwoRows B e1 e2 w0 v0 u0 W v n xs u m ys) {g cap : Nat} {zs : List Value} (ho : W'.ownsRow B e2 1 (.slice (some ⟨g, 0, none⟩) (m + 1) cap) (m + 1) zs) (hg : W.grownBy W' u.ownBlock) (hat : u.ownBlock = some g \/ g = W.heap.size) :
  TwoRows B e1 e2 w0 v0 u0 W' v n xs (.slice (some ⟨g, 0, none⟩) (m + 1) cap) (m + 1) zs := by
  obtain ⟨k1, k2⟩ := apart_lies (N := m + 1) (cap := cap) h.ap.symm h.own1 hg hat rfl
  refine ⟨k1, ho, k2.symm, h.fr.then_ (Fr.of_grown (X := fun k => u.ownBlock = some k) hg (fun k hk => hk)) (fun k hk hv => ?_), h.n1, fun k hk => ?_, h.bB⟩
  ·rcases h.n2 k hv with q | q
   ·exact .inr q
   ·omega
  ·have : g = k := by simpa [Value.ownBlock] using hk
   subst this
   rcases hat with q | q
   ·exact h.n2 g q
   ·exact .inr (by have := h.fr.size; omega)
theorem TwoRows.size (h : TwoRows B e1 e2 w0 v0 u0 W v n xs u m ys) : B <= W.heap.size := Nat.le_trans h.bB h.fr.size
theorem TwoRows.blk (h : TwoRows B e1 e2 w0 v0 u0 W v n xs u m ys) {b : Nat} {t : TypeId} {cs : Array Value} (hb : Blk w0 b t cs) (h1 : v0.ownBlock ≠ some b) (h2 : u0.ownBlock ≠ some b) : Blk W b t cs :=
 h.fr.blk hb (fun q => by rcases q with q | q; exact h1 q; exact h2 q)
end
theorem ownsRow_set {w : World} {B n sz : Nat} {e : TypeId} {v : Value} {xs : List Value} (h : w.ownsRow B e sz v n xs) {p : Addr} (hp : v.ownBlock ≠ some p.block) (x : Value) : (w.setCell p x).ownsRow B e sz v n xs := by
 obtain ⟨h1, h2⟩ := h
 refine ⟨h1, ?_⟩
 rcases h2 with h2 | ⟨g', cap, cur, rfl, hg, hh, r⟩
 ·exact .inl h2
 ·exact .inr ⟨g', cap, cur, rfl, hg, (Below.heap_setCell w p x g' (fun e => hp (by simp [Value.ownBlock, e]))).trans hh, r⟩
end Go.Proofs.Ytjkcglgkdclidaa
