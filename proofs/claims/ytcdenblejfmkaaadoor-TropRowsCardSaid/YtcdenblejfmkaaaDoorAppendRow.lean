/- Appending the elements of one []int of the call's own to another: append(v, u...), whatever both hold, at a step of a region that draws its order. -/
import Derived.Test.YtcdenblejfmkaaaDoorProg
import Derived.WalkKit
import Derived.Deep.AppendLies
namespace Go.Proofs.YtcdenblejfmkaaaDoor
open Go Go.RowKit

theorem ownsRow_below {w w' : World} {base B : Nat} {e : TypeId} {size : Nat} {v : Value} {n : Nat} {xs : List Value} (h : w.ownsRow base e size v n xs) (hlt : ∀ k, v.ownBlock = some k → k < B) (hb : Below B w w') : w'.ownsRow base e size v n xs := by
  obtain ⟨h1, h2⟩ := h
  refine ⟨h1, ?_⟩
  rcases h2 with h2 | ⟨g, cap, cur, rfl, hg, hh, r⟩
  · exact .inl h2
  · exact .inr ⟨g, cap, cur, rfl, hg, by rw [hb.block g (hlt g rfl)]; exact hh, r⟩

theorem step_append_row {w : World} {ops : Array Oper} {o : Oper} {a : Act} {K : Act → World → Prop} {Q : Exit → Act → World → Prop} {E : Prop} (hgd : o.guard = none) (s x : Operand)
    (ho : o.op = .call { callee := .builtin .append, args := #[s, x], argTypes := #[22, 22] })
    (i : TypeInfo) (hi : Tryd.prog.info? 3 = some i) (hz : i.zero = some (.int .i64 0)) (hsize : i.size = 1) (hby : i.bytes = 8)
    (base : Nat) (v : Value) (n : Nat) (xs : List Int) (hs : a.eval s = v) (hown : w.ownsRow base 3 1 v n (xs.map (Value.int .i64)))
    (base2 : Nat) (u : Value) (m : Nat) (ys : List Int) (hx : a.eval x = u) (hown2 : w.ownsRow base2 3 1 u m (ys.map (Value.int .i64)))
    (hnm : n + m ≤ 1000) (hbase : base ≤ w.heap.size)
    (h : ∀ v' w', w'.ownsRow base 3 1 v' (n + m) ((xs ++ ys).map (Value.int .i64)) → Below base w w' → K (a.put o.dst v') w') :
    if Region.wanted o (yielded ops a.tmps) = true then Oper.wp Tryd.prog o a w K Q else E := by
  have hw : Region.wanted o (yielded ops a.tmps) = true := by simp [Region.wanted, hgd]
  rw [if_pos hw]
  have hrun : ∃ v' w', (Builtin.append_ #[22, 22] o.type #[v, u]).run Tryd.prog w = .ok v' w' ∧ w'.ownsRow base 3 1 v' (n + m) ((xs ++ ys).map (Value.int .i64)) ∧ Below base w w' := by
    have hown2' := hown2
    rcases hown2'.2 with ⟨rfl, rfl⟩ | ⟨g, cap, cur, rfl, _⟩
    · have hy : ys = [] := List.eq_nil_of_length_eq_zero (by simpa using hown2.1)
      subst hy
      refine ⟨v, w, run_append_owned_none w base 22 o.type 3 i 1 Tryd.underlying22 hi v n _ hown, ?_, Below.refl _ _⟩
      simpa using hown
    · obtain ⟨v', w', hr, h2, h3, _⟩ := run_append_own (P := Tryd.prog) w base 22 o.type 3 i (.int .i64 0) 1 8 Tryd.underlying22 hi hz hsize hby rfl (by omega) v n _ hown
        ⟨g, 0, none⟩ m cap (ys.map (Value.int .i64)) (by simpa using hown2.1) (hown2.cells rfl) (by simp [Value.oneCell']) (by unfold maxLen; omega) (by omega) hbase
      exact ⟨v', w', hr, by rw [List.map_append]; exact h2, (Below.refl _ _).grown h3 hbase (fun k hk => (hown.lt k hk).1)⟩
  obtain ⟨v', w', hr, h2, h3⟩ := hrun
  unfold Oper.wp execOp
  simp only [ho, resolve, invoke, builtin, Sem.run_bind, Sem.run_pure, Result.andThen_ok, List.map_toArray, List.map_cons, List.map_nil, hs, hx, hr]
  exact h v' w' h2 h3

end Go.Proofs.YtcdenblejfmkaaaDoor
