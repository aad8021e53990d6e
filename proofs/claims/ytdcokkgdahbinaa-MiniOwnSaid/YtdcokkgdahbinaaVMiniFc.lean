/- slices.Clone of Vecs, forward.vecs; rows of rows of any size. -/
import Derived.Test.YtdcokkgdahbinaaVMiniFb
set_option linter.unusedVariables false
set_option linter.unusedSimpArgs false
set_option maxRecDepth 100000
set_option maxHeartbeats 8000000
namespace Go.Proofs.Ytdcokkgdahbinaa
open Go Go.RowKit Go.Proofs
theorem info_vec : (Try.prog.info? 53).map (fun i => (i.zero, i.size, i.bytes)) = some (some (.agg #[.int .i64 0, .int .i64 0, .int .i64 0]), 3, 24) := by kernel_rfl
theorem ownV_none (w : World) : OwnE encV 53 3 (w.alloc (.cells #[] 53)) w.heap.size (.slice (some ⟨w.heap.size, 0, none⟩) 0 0) 0 [] := by
 refine ⟨rfl, .inr ⟨w.heap.size, 0, #[], rfl, Nat.le_refl _, heap_alloc_new w _, ?_⟩⟩
 simp [maxLen]
theorem run_concatV (ty : TypeId) {w : World} {B n m : Nat} {v u : Value} {l l' : List V3} (hown : OwnE encV 53 3 w B v n l) (hu : ReadsE encV 3 w u m l') (hnm : n + m <= 1000000000) (hB : B <= w.heap.size) :
  ∃ v' w', (Builtin.append_ #[42, 42] ty #[v, u]).run Try.prog w = .ok v' w' /\ OwnE encV 53 3 w' B v' (n + m) (l ++ l') /\ Below B w w' /\ w.grownBy w' v.ownBlock /\ (v'.ownBlock = v.ownBlock \/ v'.ownBlock = some w.heap.size) := by
  obtain ⟨i0, hi, hz0, hz1, hz2⟩ := info_parts info_vec
  obtain ⟨h1, a, cap, rfl, h2, h3, h4, h5⟩ := hu
  cases m with
  | zero =>
    have hy : l' = [] := List.eq_nil_of_length_eq_zero h1
    subst hy
    cases a with
    | none =>
      have := h4 rfl
      subst this
      exact ⟨v, w, run_append_owned_none w B 42 ty 53 i0 3 Try.underlying42 hi v n _ hown, by simpa using hown, Below.refl _ _, ⟨rfl, rfl, rfl, Nat.le_refl _, fun _ _ _ => rfl⟩, .inl rfl⟩
    | some ad =>
      obtain ⟨v', w', hr, q2, q3, _, q5⟩ := run_append_own_at (P := Try.prog) w B 42 ty 53 i0 _ 3 24 Try.underlying42 hi hz0 hz1 hz2 rfl (by omega) v n _ hown
       ad 0 cap [] rfl (fun j u hj => by simp at hj) (by simp) (by unfold maxLen; omega) (by omega) hB
      exact ⟨v', w', hr, by unfold OwnE; simpa using q2, (Below.refl _ _).grown q3 hB (fun k hk => (hown.lt k hk).1), q3, q5⟩
  | succ m =>
    have hl0 : 0 < l'.length := by omega
    obtain ⟨b, off, rfl, -⟩ := h5 0 l'[0] (List.getElem?_eq_getElem hl0)
    have hfl : (l'.flatMap encV).length = l'.length * 3 := flatMap_len encV 3 encV_len l'
    have hcells : ∀ j u, (l'.flatMap encV)[j]? = some u -> w.cell? ((⟨b, off, none⟩ : Addr).add j) = some u := fun j u hj => by
     have e : (⟨b, off, none⟩ : Addr).add j = ⟨b, off + j, none⟩ := by unfold Addr.add; split <;> simp_all
     rw [e]
     have hlt : j < (l'.flatMap encV).length := by
      rcases Nat.lt_or_ge j (l'.flatMap encV).length with h | h
      ·exact h
      ·rw [List.getElem?_eq_none h] at hj; cases hj
     have hil : j / 3 < l'.length := by omega
     have hj2 : (l'.flatMap encV)[j / 3 * 3 + j % 3]? = some u := by rw [show j / 3 * 3 + j % 3 = j by omega]; exact hj
     rw [flatMap_at encV 3 encV_len l' (j / 3) (j % 3) hil (by omega)] at hj2
     obtain ⟨b', off', e', hc⟩ := h5 (j / 3) _ (List.getElem?_eq_getElem hil)
     simp only [Option.some.injEq, Addr.mk.injEq, and_true] at e'
     obtain ⟨rfl, rfl⟩ := e'
     have := hc _ _ hj2
     rw [show off + j / 3 * 3 + j % 3 = off + j by omega] at this
     exact this
    obtain ⟨v', w', hr, q2, q3, _, q5⟩ := run_append_own_at (P := Try.prog) w B 42 ty 53 i0 _ 3 24 Try.underlying42 hi hz0 hz1 hz2 rfl (by omega) v n _ hown
     ⟨b, off, none⟩ (m + 1) cap (l'.flatMap encV) (by rw [hfl, h1]) hcells (by intro u hu; obtain ⟨x, _, hx⟩ := List.mem_flatMap.1 hu; simp [encV] at hx; rcases hx with rfl | rfl | rfl <;> rfl) (by unfold maxLen; omega) (by omega) hB
    exact ⟨v', w', hr, by unfold OwnE; rw [List.flatMap_append]; exact q2, (Below.refl _ _).grown q3 hB (fun k hk => (hown.lt k hk).1), q3, q5⟩
theorem wpList_concatV {w : World} {ops : Array Oper} {rest : List Oper} {o : Oper} {a : Act} {Q : Exit -> Act -> World -> Prop} (hgd : o.guard = none) (s x : Operand)
  (ho : o.op = .call { callee := .builtin .append, args := #[s, x], argTypes := #[42, 42] })
  (B : Nat) (v : Value) (n : Nat) (l : List V3) (hs : a.eval s = v) (hown : OwnE encV 53 3 w B v n l)
  (u : Value) (m : Nat) (l' : List V3) (hx : a.eval x = u) (hu : ReadsE encV 3 w u m l') (hnm : n + m <= 1000000000) (hB : B <= w.heap.size)
  (h : ∀ v' w', OwnE encV 53 3 w' B v' (n + m) (l ++ l') -> Below B w w' -> wpList Try.prog ops Q rest (a.put o.dst v') w') : wpList Try.prog ops Q (o :: rest) a w := by
  obtain ⟨v', w', hr, h2, h3, h4, h5⟩ := run_concatV o.type hown hu hnm hB
  refine wpList_plain hgd fun K hK => ?_
  unfold Oper.wp execOp
  simp only [ho, resolve, invoke, builtin, Sem.run_bind, Sem.run_pure, Result.andThen_ok, List.map_toArray, List.map_cons, List.map_nil, hs, hx, hr]
  exact hK _ _ (h v' w' h2 h3)
theorem cloneV_any {w : World} {v : Value} {n : Nat} {l : List V3} (h : ReadsE encV 3 w v n l) (hn : n <= 1000000000) :
  Calls Try.prog 59 #[v] w fun e w' => ∃ u, e = .returned u /\ OwnE encV 53 3 w' w.heap.size u n l /\ Below w.heap.size w w' := by
  obtain ⟨A, cap, rfl, h1, h2, hl⟩ := h.form
  cases A with
  | none =>
    have hc : cap = 0 := by
     obtain ⟨_, a', cap', e, _, _, h3, _⟩ := h
     simp only [Value.slice.injEq, true_and] at e
     obtain ⟨rfl, rfl⟩ := e
     exact h3 rfl
    obtain rfl : n = 0 := by omega
    have : l = [] := List.eq_nil_of_length_eq_zero hl
    subst this
    clear h
    subst hc
    have hnil := fun W => Lib.run_eql_slice_nil (P := Try.prog) W 42 53 none 0 0 0 0 Try.underlying42
    go_enter Try.func59, Try.ntmps59
    go_wp2_with fail
    go_ret
    exact ⟨_, rfl, OwnE.nil _ _, Below.refl _ _⟩
  | some a =>
    have HR := Lib.hid h
    clear h
    go_enter Try.func59, Try.ntmps59
    have hnil := fun W => Lib.run_eql_slice_nil (P := Try.prog) W 42 53 (some a) n cap 0 0 Try.underlying42
    have hsz : w.heap.size <= (w.alloc (.cells #[] 53)).heap.size := by simp
    go_wp2_with (at_builtin; refine wpList_concatV rfl (.tmp 5) (.tmp 6) rfl w.heap.size (sl w.heap.size 0 0) 0 [] (by rfl) (ownV_none w) (.slice (some a) n cap) n l (by rfl) (HR.out.alloc _) (by omega) hsz ?_; intro v' w' q1 q2; have H1 := Lib.hid q1; have H2 := Lib.hid q2; clear q1 q2)
    go_ret
    have q1 := H1.out
    rw [Nat.zero_add, List.nil_append] at q1
    exact ⟨_, rfl, q1, (Below.refl w.heap.size w).alloc (Nat.le_refl _) _ |>.trans H2.out⟩
theorem vecs_any {w : World} {NA OA : Option Addr} {nc oc n m : Nat} {E : List (List V3)} (ho : EmitR w (.slice OA m oc) E) (hel : E.length = m) {x : Nat} (hx : x < m) (hq : (E.getD x []).length <= 1000) :
  Calls Try.prog 43 #[.agg #[.slice NA n nc, .slice OA m oc], .int .i64 (x : Int)] w fun e w' => ∃ u, e = .returned u /\ OwnE encV 53 3 w' w.heap.size u (E.getD x []).length (E.getD x []) /\ Below w.heap.size w w' := by
  obtain ⟨OA', c', e, hoc, hoc2⟩ := ho.form
  rw [hel] at hoc
  simp only [Value.slice.injEq] at e
  obtain ⟨rfl, -, rfl⟩ := e
  obtain ⟨g0, o0, A, q, c, hA, hq0, d0, hr, q1, q2⟩ := ho.at_ (i := x) (by rw [hel]; exact hx)
  subst hA
  rw [<- hq0] at hq ⊢
  generalize E.getD x [] = vs at *
  have x0 : (0 : Int) <= (x : Int) := Int.natCast_nonneg _
  have x1 : (x : Int) < (m : Int) := by omega
  have tx : decide (x < m) = true := by simpa using hx
  obtain ⟨W0, hW0⟩ : ∃ W0, w.alloc (.cells #[.slice NA n nc, .slice (some ⟨g0, o0, none⟩) m oc] 73) = W0 := ⟨_, rfl⟩
  have hb0 : Below w.heap.size w W0 := by rw [<- hW0]; exact (Below.refl _ _).alloc (Nat.le_refl _) _
  have d1 : (w.alloc (.cells #[.slice NA n nc, .slice (some ⟨g0, o0, none⟩) m oc] 73)).cell? ⟨g0, o0 + x, none⟩ = some (.slice A q c) := by rw [hW0]; exact bel_m hb0 d0
  have hcl := cloneV_any (hr.below hb0) (by omega)
  have HCL := Lib.hid hcl; have HB0 := Lib.hid hb0; have HW0 := Lib.hid hW0
  clear ho hel d0 hr hb0 hW0 hcl hq0
  go_enter Try.func43, Try.ntmps43
  go_wp2_with fail
  rw [HW0.out]
  refine HCL.out.mono ?_
  rintro e w1 ⟨u, rfl, hu, hb1⟩
  have HU := Lib.hid (hu.more HB0.out.size); have HB1 := Lib.hid (HB0.out.trans (hb1.mono HB0.out.size))
  clear hu hb1
  go_wp2_with fail
  go_ret
  exact ⟨_, rfl, HU.out, HB1.out⟩
section
variable {w w' w0 w1 : World} {B : Nat} {e e' : TypeId} {sz k : Nat} {v : Value} {xss : List (Nat × List Value)}
theorem OwnLL.pushV (h : OwnLL w0 B e e' sz v k xss) : ∃ vals, OwnE (fun u : Value => [u]) e 1 w0 B v k vals /\ ∀ (w1 : World) (g cap : Nat) (u : Value) (n : Nat) (xs : List Value), PushedE (fun u : Value => [u]) e 1 B w0 w1 v g cap k vals u ->
  w0.ownsRow B e' sz u n xs -> Apart v u -> OwnLL w1 B e e' sz (sl g (k + 1) cap) (k + 1) (xss ++ [(n, xs)]) := by
  obtain ⟨h1, vals, h2, h3⟩ := h
  refine ⟨vals, by unfold OwnE; rw [flat1]; exact h2, fun w1 g cap u n xs hp hu hap => ?_⟩
  have hl : vals.length = k := by have := h2.1; omega
  have hrow : w1.ownsRow B e 1 (sl g (k + 1) cap) (k + 1) (vals ++ [u]) := by have := hp.own; unfold OwnE at this; rw [flat1] at this; exact this
  have key : ∀ {u' : Value} {n' : Nat} {xs' : List Value}, w0.ownsRow B e' sz u' n' xs' -> Apart v u' -> w1.ownsRow B e' sz u' n' xs' /\ Apart (sl g (k + 1) cap) u' := fun {u' n' xs'} hr ha => by
   constructor
   ·refine World.ownsRow.kept hr hp.grow ?_
    cases hu' : u'.ownBlock with
    | none => exact .inl rfl
    | some z =>
      refine .inr (fun q => ?_)
      rcases ha with s | s | s
      ·rw [s] at q; cases q
      ·rw [s] at hu'; cases hu'
      ·exact s (by rw [<- q, hu'])
   ·cases hu' : u'.ownBlock with
    | none => exact .inr (.inl hu')
    | some z =>
      refine .inr (.inr (fun q => ?_))
      rw [hu'] at q
      have hz : z = g := by simpa [Value.ownBlock, eq_comm] using q
      subst hz
      rcases hp.at_ with r | r
      ·rcases ha with s | s | s
       ·rw [s] at r; cases r
       ·rw [s] at hu'; cases hu'
       ·exact s (by rw [r, hu'])
      ·have := (hr.lt z hu').2; omega
  refine ⟨by simp [h1], vals ++ [u], hrow, fun i hi => ?_⟩
  rcases Nat.lt_or_ge i k with g1 | g1
  ·have e1 : (vals ++ [u]).getD i undef = vals.getD i undef := by simp [List.getD, List.getElem?_append_left (show i < vals.length by omega)]
   have e2 : (xss ++ [(n, xs)]).getD i (0, []) = xss.getD i (0, []) := by simp [List.getD, List.getElem?_append_left (show i < xss.length by omega)]
   rw [e1, e2]
   exact key (h3 i g1).1 (h3 i g1).2
  ·have hik : i = k := by omega
   subst hik
   have e1 : (vals ++ [u]).getD i undef = u := by simp [List.getD, <- hl]
   have e2 : (xss ++ [(n, xs)]).getD i (0, []) = (n, xs) := by simp [List.getD, <- h1]
   rw [e1, e2]
   exact key hu hap
theorem OwnLL.more' (h : OwnLL w B e e' sz v k xss) {B' : Nat} (hB : B' <= B) : OwnLL w B' e e' sz v k xss := by
 have key : ∀ {t : TypeId} {s : Nat} {u : Value} {n : Nat} {xs : List Value}, w.ownsRow B t s u n xs -> w.ownsRow B' t s u n xs := fun {t s u n xs} h => by
  obtain ⟨h1, h2⟩ := h
  refine ⟨h1, ?_⟩
  rcases h2 with h2 | ⟨g, cap, cur, rfl, hg, r⟩
  ·exact .inl h2
  ·exact .inr ⟨g, cap, cur, rfl, by omega, r⟩
 obtain ⟨h1, vals, h2, h3⟩ := h
 exact ⟨h1, vals, key h2, fun i hi => ⟨key (h3 i hi).1, (h3 i hi).2⟩⟩
theorem OwnLL.fr' {X : Nat -> Prop} (h : OwnLL w B e e' sz v k xss) (hf : Fr X w w') (hX : ∀ q, B <= q -> ¬ X q) : OwnLL w' B e e' sz v k xss := by
 obtain ⟨h1, vals, h2, h3⟩ := h
 exact ⟨h1, vals, rowFr h2 hf (fun q hq => hX q (h2.lt q hq).1), fun i hi => ⟨rowFr (h3 i hi).1 hf (fun q hq => hX q ((h3 i hi).1.lt q hq).1), (h3 i hi).2⟩⟩
theorem OwnLL.form' (h : OwnLL w B e e' sz v k xss) : ∃ A c, v = .slice A k c /\ k <= c /\ c <= 9223372036854775807 := by
 obtain ⟨h1, vals, h2, h3⟩ := h
 rcases h2.2 with ⟨e1, e0⟩ | ⟨g, cap, cur, e1, _, _, q1, q2, _⟩
 ·exact ⟨none, 0, by rw [e1, e0], by omega, by omega⟩
 ·unfold maxLen at q2
  exact ⟨_, cap, e1, q1, by omega⟩
end
end Go.Proofs.Ytdcokkgdahbinaa
