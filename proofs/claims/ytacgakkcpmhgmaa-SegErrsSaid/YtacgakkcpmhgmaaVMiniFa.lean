/- A forward machine in memory; forward.right, of a machine. forward.key: what a state says, as bytes. slices.Clone of Vecs, forward.vecs; rows of rows of any size. told of a Fwd. forward.picked. mini.Pick, of a machine, of labels that are places. The law text's within; small machines. Rows that a call left, read as a machine's; the example's facts. The law text's machines, plain. -/
import Derived.Test.YtacgakkcpmhgmaaVMiniSp
import Derived.Test.YtacgakkcpmhgmaaVAny
import Derived.Laws.BytesArg
import Derived.Test.YtacgakkcpmhgmaaVLastY
set_option linter.unusedVariables false
set_option linter.unusedSimpArgs false
namespace Go.Proofs.Ytacgakkcpmhgmaa
open Go Go.RowKit Go.Proofs
theorem tkg (G : List Nat) {P : Program} {ops : Array Oper} {Q : Exit -> Act -> World -> Prop} {md : Region.Mode} {S : World -> Prop} {m i : Nat} {oi : Oper} {v : Value} {fuel : Nat} {listed : Array Bool} {a : Act} {w : World} (hS : S w)
  (hv : ∀ w, S w -> (execOp a.eval oi).run P w = .ok (.value v) w) (h : anyX P md ops Q S m fuel (listed.setIfInBounds i true) (a.put oi.dst v) w)
  (hi : ops[i]? = some oi := by rfl) (hg : Region.wanted oi (yielded ops a.tmps) = true := by rfl)
  (hs : Region.noSelect ops = true := by kernel_rfl) (hf : Region.free md ops listed i = true := by kernel_rfl) (hr : (Region.ready md ops listed).contains i = true := by kernel_rfl) (hw : gated md ops m G i = true := by kernel_rfl) (hG : (G.all fun g => !(listed.getD g true)) = true := by kernel_rfl)
  (hQ : ∀ c a w, Q (.panic c) (a.put oi.dst v) w -> Q (.panic c) a w := by exact fun _ _ _ h => h) : anyX P md ops Q S m (fuel + 1) listed a w :=
  anyX_takeG G hi hs hf hr hw hG hQ (Or.inl ⟨hg, hv⟩) hS h
abbrev V3 := Int × Int × Int
def encV (u : V3) : List Value := [.int .i64 u.1, .int .i64 u.2.1, .int .i64 u.2.2]
theorem encV_len (u : V3) : (encV u).length = 3 := rfl
def EmitR (w : World) (v : Value) (E : List (List V3)) : Prop :=
 ∃ a cap, v = .slice a E.length cap /\ E.length <= cap /\ cap <= maxLen /\ (a = none -> cap = 0) /\ ∀ i, i < E.length -> ∃ b off u, a = some ⟨b, off, none⟩ /\ w.cell? ⟨b, off + i, none⟩ = some u /\ ReadsE encV 3 w u (E.getD i []).length (E.getD i [])
section
variable {w w' : World} {v : Value} {E : List (List V3)}
theorem EmitR.same (h : EmitR w v E) (hk : ∀ b o x, w.cell? ⟨b, o, none⟩ = some x -> w'.cell? ⟨b, o, none⟩ = some x) : EmitR w' v E := by
 obtain ⟨a, cap, h1, h2, h3, h4, h5⟩ := h
 refine ⟨a, cap, h1, h2, h3, h4, fun i hi => ?_⟩
 obtain ⟨b, off, u, e, hc, hr⟩ := h5 i hi
 exact ⟨b, off, u, e, hk _ _ _ hc, hr.same hk⟩
theorem EmitR.below (h : EmitR w v E) (hb : Below w.heap.size w w') : EmitR w' v E := h.same fun b o x hx => bel_m hb hx
theorem EmitR.form (h : EmitR w v E) : ∃ a cap, v = .slice a E.length cap /\ E.length <= cap /\ cap <= 9223372036854775807 := by
 obtain ⟨a, cap, h1, h2, h3, _⟩ := h
 exact ⟨a, cap, h1, h2, by unfold maxLen at h3; exact h3⟩
theorem EmitR.at_ {a : Option Addr} {n cap : Nat} (h : EmitR w (.slice a n cap) E) {i : Nat} (hi : i < E.length) : ∃ b off A m c, a = some ⟨b, off, none⟩ /\ m = (E.getD i []).length /\ w.cell? ⟨b, off + i, none⟩ = some (.slice A m c) /\ ReadsE encV 3 w (.slice A m c) m (E.getD i []) /\ m <= c /\ c <= 9223372036854775807 := by
 obtain ⟨a', cap', h1, h2, h3, h4, h5⟩ := h
 simp only [Value.slice.injEq] at h1
 obtain ⟨rfl, -, rfl⟩ := h1
 obtain ⟨b, off, u, e, hc, hr⟩ := h5 i hi
 obtain ⟨A, c, e2, q1, q2, _⟩ := hr.form
 subst e2
 exact ⟨b, off, A, _, c, e, rfl, hc, hr, q1, q2⟩
end
end Go.Proofs.Ytacgakkcpmhgmaa
namespace Go.Proofs.Ytacgakkcpmhgmaa
open Go Go.RowKit Go.Proofs
def byZ (n : Int) (t : Nat) : Int := (n / 256 ^ t) % 256
def numZ (n : Int) (t : Nat) : List Int := (List.range t).map (byZ n)
def atV (u : V3) (c : Nat) : Int := if c = 0 then u.1 else if c = 1 then u.2.1 else u.2.2
def vecZ (u : V3) (c : Nat) : List Int := (List.range c).flatMap fun i => numZ (atV u i) 8
def keyZ (vs : List V3) : List Int := vs.flatMap fun u => vecZ u 3
def encB (b : Int) : List Value := [.int .u8 b]
theorem encB_len (b : Int) : (encB b).length = 1 := rfl
theorem numZ_succ (n : Int) (t : Nat) : numZ n (t + 1) = numZ n t ++ [byZ n t] := by unfold numZ; rw [List.range_succ, List.map_append]; rfl
theorem vecZ_succ (u : V3) (c : Nat) : vecZ u (c + 1) = vecZ u c ++ numZ (atV u c) 8 := by unfold vecZ; rw [List.range_succ, List.flatMap_append]; simp
theorem keyZ_take {vs : List V3} {i : Nat} (h : i < vs.length) : keyZ (vs.take (i + 1)) = keyZ (vs.take i) ++ vecZ (vs.getD i (0, 0, 0)) 3 := by
 unfold keyZ
 rw [List.take_add_one, List.getElem?_eq_getElem h, List.flatMap_append, List.getD_eq_getElem?_getD, List.getElem?_eq_getElem h]
 simp
theorem numZ_len (n : Int) (t : Nat) : (numZ n t).length = t := by simp [numZ]
theorem vecZ_len (u : V3) (c : Nat) : (vecZ u c).length = c * 8 := by
 induction c with
 | zero => rfl
 | succ c ih => rw [vecZ_succ, List.length_append, ih, numZ_len]; omega
theorem info_byte : (Try.prog.info? 5).map (fun i => (i.zero, i.size, i.bytes)) = some (some (.int .u8 0), 1, 1) := by kernel_rfl
theorem div_in {z : Int} (h1 : -9223372036854775808 <= z) (h2 : z <= 9223372036854775807) (t : Nat) : -9223372036854775808 <= z / 256 ^ t /\ z / 256 ^ t <= 9223372036854775807 := by
 have hp : (0 : Int) < 256 ^ t := Int.pow_pos (by decide)
 constructor
 ·rw [Int.le_ediv_iff_mul_le hp]
  have : (1 : Int) <= 256 ^ t := hp
  have h3 : -9223372036854775808 * (256 : Int) ^ t <= -9223372036854775808 * 1 := Int.mul_le_mul_of_nonpos_left (by decide) this
  omega
 ·rcases Int.lt_or_le z 0 with h | h
  ·have := Int.ediv_neg_of_neg_of_pos h hp
   omega
  ·have := Int.ediv_le_self (256 ^ t) h
   omega
theorem div_succ (z : Int) (t : Nat) : z / 256 ^ (t + 1) = z / 256 ^ t / 256 := by
 rw [Int.pow_succ, Int.ediv_ediv_of_nonneg (Int.le_of_lt (Int.pow_pos (by decide)))]
def mkB (c : Nat) : Array Value := madeCells #[.int .u8 0] (c * 1)
theorem mkB_any (c : Nat) (hc : c <= 1000000) (W : World) : (Instr.makeSlice 23 (.int .i64 0) (.int .i64 (c : Int))).run Try.prog W = .ok (.slice (some ⟨W.heap.size, 0, none⟩) 0 c) (W.alloc (.cells (mkB c) 5)) := by
 obtain ⟨i0, hi, hz0, hz1, hz2⟩ := info_parts info_byte
 have h := run_make (P := Try.prog) W 23 5 i0 _ Try.underlying23 hi hz0 .i64 .i64 0 c (Int.le_refl _) (by omega) (by rw [hz2]; omega) (by omega)
 rw [h, hz1]
 simp only [Int.toNat_natCast, Int.toNat_zero]
 rfl
theorem own_mkB (c : Nat) (hc : c <= 1000000) (w : World) : OwnE encB 5 1 (w.alloc (.cells (mkB c) 5)) w.heap.size (sl w.heap.size 0 c) 0 [] := by
 refine ⟨by simp, .inr ⟨w.heap.size, c, _, rfl, Nat.le_refl _, heap_alloc_new w _, Nat.zero_le _, by unfold maxLen; omega, by simp [mkB, size_madeCells], ?_⟩⟩
 simp
theorem index_vec (u : V3) (c : Nat) (hc : c < 3) (W : World) : (Instr.index 51 (.agg #[.int .i64 u.1, .int .i64 u.2.1, .int .i64 u.2.2]) (.int .i64 (c : Int))).run Try.prog W = .ok (.int .i64 (atV u c)) W := by
 rcases (show c = 0 \/ c = 1 \/ c = 2 by omega) with rfl | rfl | rfl
 ·kernel_rfl
 ·kernel_rfl
 ·kernel_rfl
theorem byZ_in (z : Int) (t : Nat) : 0 <= byZ z t /\ byZ z t < 256 := by unfold byZ; omega
theorem keyZ_in {vs : List V3} : ∀ x ∈ keyZ vs, 0 <= x /\ x < 256 := by
 intro x hx
 unfold keyZ vecZ numZ at hx
 simp only [List.mem_flatMap, List.mem_map] at hx
 obtain ⟨_, _, _, _, t, _, rfl⟩ := hx
 exact byZ_in _ _
theorem bytes_inj : ∀ {a b : List Int}, (∀ x ∈ a, 0 <= x /\ x < 256) -> (∀ x ∈ b, 0 <= x /\ x < 256) -> (a.map fun n => UInt8.ofNat n.toNat) = (b.map fun n => UInt8.ofNat n.toNat) -> a = b
 | [], [], _, _, _ => rfl
 | [], _ :: _, _, _, h => by simp at h
 | _ :: _, [], _, _, h => by simp at h
 | x :: a, y :: b, ha, hb, h => by
   simp only [List.map_cons, List.cons.injEq] at h
   obtain ⟨h1, h2⟩ := h
   have hx := ha x (by simp); have hy := hb y (by simp)
   have h3 : x.toNat % 256 = y.toNat % 256 := by have := congrArg UInt8.toNat h1; simpa using this
   have h4 : x = y := by omega
   rw [h4, bytes_inj (fun q hq => ha q (by simp [hq])) (fun q hq => hb q (by simp [hq])) h2]
theorem strOfNums_inj {a b : List Int} (ha : ∀ x ∈ a, 0 <= x /\ x < 256) (hb : ∀ x ∈ b, 0 <= x /\ x < 256) (h : strOfNums a = strOfNums b) : a = b :=
 bytes_inj ha hb (congrArg (fun s : ByteArray => s.data.toList) h)
def In64 (z : Int) : Prop := -9223372036854775808 <= z /\ z <= 9223372036854775807
theorem numZ_inj {z y : Int} (hz : In64 z) (hy : In64 y) (h : numZ z 8 = numZ y 8) : z = y := by
 have hb : ∀ t, t < 8 -> byZ z t = byZ y t := fun t ht => by
  have := congrArg (fun l => l.getD t 0) h
  simpa [numZ, ht] using this
 unfold byZ at hb
 obtain ⟨z1, z2⟩ := hz
 obtain ⟨y1, y2⟩ := hy
 have h7 : z / 256 ^ 7 = y / 256 ^ 7 := by
  have := hb 7 (by omega)
  have e : (256 : Int) ^ 7 = 72057594037927936 := by decide
  rw [e] at this ⊢
  omega
 have down : ∀ t, t < 8 -> z / 256 ^ (t + 1) = y / 256 ^ (t + 1) -> z / 256 ^ t = y / 256 ^ t := fun t ht hh => by
  rw [div_succ, div_succ] at hh
  have := hb t ht
  omega
 have h0 := down 0 (by omega) (down 1 (by omega) (down 2 (by omega) (down 3 (by omega) (down 4 (by omega) (down 5 (by omega) (down 6 (by omega) h7))))))
 simpa using h0
theorem vecZ_inj {u v : V3} (hu : ∀ c, In64 (atV u c)) (hv : ∀ c, In64 (atV v c)) (h : vecZ u 3 = vecZ v 3) : u = v := by
 rw [vecZ_succ, vecZ_succ, vecZ_succ, vecZ_succ v, vecZ_succ v, vecZ_succ v] at h
 have h2 := List.append_inj' h (by rw [numZ_len, numZ_len])
 have h1 := List.append_inj' h2.1 (by rw [numZ_len, numZ_len])
 have h0 := List.append_inj' h1.1 (by rw [numZ_len, numZ_len])
 have e0 := numZ_inj (hu 0) (hv 0) h0.2
 have e1 := numZ_inj (hu 1) (hv 1) h1.2
 have e2 := numZ_inj (hu 2) (hv 2) h2.2
 obtain ⟨a, b, c⟩ := u
 obtain ⟨a', b', c'⟩ := v
 simp [atV] at e0 e1 e2
 simp [e0, e1, e2]
theorem keyZ_inj : ∀ {a b : List V3}, (∀ u ∈ a, ∀ c, In64 (atV u c)) -> (∀ u ∈ b, ∀ c, In64 (atV u c)) -> a.length = b.length -> keyZ a = keyZ b -> a = b
 | [], [], _, _, _, _ => rfl
 | [], _ :: _, _, _, h, _ => by simp at h
 | _ :: _, [], _, _, h, _ => by simp at h
 | x :: a, y :: b, ha, hb, hl, h => by
   have h' : vecZ x 3 ++ keyZ a = vecZ y 3 ++ keyZ b := h
   have h2 := List.append_inj h' (by rw [vecZ_len, vecZ_len])
   rw [vecZ_inj (ha x (by simp)) (hb y (by simp)) h2.1, keyZ_inj (fun u hu => ha u (by simp [hu])) (fun u hu => hb u (by simp [hu])) (by simpa using hl) h2.2]
theorem key_iff {a b : List V3} (ha : ∀ u ∈ a, ∀ c, In64 (atV u c)) (hb : ∀ u ∈ b, ∀ c, In64 (atV u c)) (hl : a.length = b.length) : strOfNums (keyZ a) = strOfNums (keyZ b) ↔ a = b :=
 ⟨fun h => keyZ_inj ha hb hl (strOfNums_inj keyZ_in keyZ_in h), fun h => by rw [h]⟩
end Go.Proofs.Ytacgakkcpmhgmaa
namespace Go.Proofs.Ytacgakkcpmhgmaa
open Go Go.RowKit Go.Proofs
theorem info_vec : (Try.prog.info? 51).map (fun i => (i.zero, i.size, i.bytes)) = some (some (.agg #[.int .i64 0, .int .i64 0, .int .i64 0]), 3, 24) := by kernel_rfl
theorem ownV_none (w : World) : OwnE encV 51 3 (w.alloc (.cells #[] 51)) w.heap.size (.slice (some ⟨w.heap.size, 0, none⟩) 0 0) 0 [] := by
 refine ⟨rfl, .inr ⟨w.heap.size, 0, #[], rfl, Nat.le_refl _, heap_alloc_new w _, ?_⟩⟩
 simp [maxLen]
theorem run_concatV (ty : TypeId) {w : World} {B n m : Nat} {v u : Value} {l l' : List V3} (hown : OwnE encV 51 3 w B v n l) (hu : ReadsE encV 3 w u m l') (hnm : n + m <= 1000000000) (hB : B <= w.heap.size) :
  ∃ v' w', (Builtin.append_ #[36, 36] ty #[v, u]).run Try.prog w = .ok v' w' /\ OwnE encV 51 3 w' B v' (n + m) (l ++ l') /\ Below B w w' /\ w.grownBy w' v.ownBlock /\ (v'.ownBlock = v.ownBlock \/ v'.ownBlock = some w.heap.size) := by
  obtain ⟨i0, hi, hz0, hz1, hz2⟩ := info_parts info_vec
  obtain ⟨h1, a, cap, rfl, h2, h3, h4, h5⟩ := hu
  cases m with
  | zero =>
    have hy : l' = [] := List.eq_nil_of_length_eq_zero h1
    subst hy
    cases a with
    | none =>
      have := h4 rfl
      subst this
      exact ⟨v, w, run_append_owned_none w B 36 ty 51 i0 3 Try.underlying36 hi v n _ hown, by simpa using hown, Below.refl _ _, ⟨rfl, rfl, rfl, Nat.le_refl _, fun _ _ _ => rfl⟩, .inl rfl⟩
    | some ad =>
      obtain ⟨v', w', hr, q2, q3, _, q5⟩ := run_append_own_at (P := Try.prog) w B 36 ty 51 i0 _ 3 24 Try.underlying36 hi hz0 hz1 hz2 rfl (by omega) v n _ hown
       ad 0 cap [] rfl (fun j u hj => by simp at hj) (by simp) (by unfold maxLen; omega) (by omega) hB
      exact ⟨v', w', hr, by unfold OwnE; simpa using q2, (Below.refl _ _).grown q3 hB (fun k hk => (hown.lt k hk).1), q3, q5⟩
  | succ m =>
    have hl0 : 0 < l'.length := by omega
    obtain ⟨b, off, rfl, -⟩ := h5 0 l'[0] (List.getElem?_eq_getElem hl0)
    have hfl : (l'.flatMap encV).length = l'.length * 3 := flatMap_len encV 3 encV_len l'
    have hcells : ∀ j u, (l'.flatMap encV)[j]? = some u -> w.cell? ((⟨b, off, none⟩ : Addr).add j) = some u := fun j u hj => by
     have e : (⟨b, off, none⟩ : Addr).add j = ⟨b, off + j, none⟩ := by unfold Addr.add; split <;> simp_all
     rw [e]
     have hlt : j < (l'.flatMap encV).length := by
      rcases Nat.lt_or_ge j (l'.flatMap encV).length with h | h
      ·exact h
      ·rw [List.getElem?_eq_none h] at hj; cases hj
     have hil : j / 3 < l'.length := by omega
     have hj2 : (l'.flatMap encV)[j / 3 * 3 + j % 3]? = some u := by rw [show j / 3 * 3 + j % 3 = j by omega]; exact hj
     rw [flatMap_at encV 3 encV_len l' (j / 3) (j % 3) hil (by omega)] at hj2
     obtain ⟨b', off', e', hc⟩ := h5 (j / 3) _ (List.getElem?_eq_getElem hil)
     simp only [Option.some.injEq, Addr.mk.injEq, and_true] at e'
     obtain ⟨rfl, rfl⟩ := e'
     have := hc _ _ hj2
     rw [show off + j / 3 * 3 + j % 3 = off + j by omega] at this
     exact this
    obtain ⟨v', w', hr, q2, q3, _, q5⟩ := run_append_own_at (P := Try.prog) w B 36 ty 51 i0 _ 3 24 Try.underlying36 hi hz0 hz1 hz2 rfl (by omega) v n _ hown
     ⟨b, off, none⟩ (m + 1) cap (l'.flatMap encV) (by rw [hfl, h1]) hcells (by intro u hu; obtain ⟨x, _, hx⟩ := List.mem_flatMap.1 hu; simp [encV] at hx; rcases hx with rfl | rfl | rfl <;> rfl) (by unfold maxLen; omega) (by omega) hB
    exact ⟨v', w', hr, by unfold OwnE; rw [List.flatMap_append]; exact q2, (Below.refl _ _).grown q3 hB (fun k hk => (hown.lt k hk).1), q3, q5⟩
theorem wpList_concatV {w : World} {ops : Array Oper} {rest : List Oper} {o : Oper} {a : Act} {Q : Exit -> Act -> World -> Prop} (hgd : o.guard = none) (s x : Operand)
  (ho : o.op = .call { callee := .builtin .append, args := #[s, x], argTypes := #[36, 36] })
  (B : Nat) (v : Value) (n : Nat) (l : List V3) (hs : a.eval s = v) (hown : OwnE encV 51 3 w B v n l)
  (u : Value) (m : Nat) (l' : List V3) (hx : a.eval x = u) (hu : ReadsE encV 3 w u m l') (hnm : n + m <= 1000000000) (hB : B <= w.heap.size)
  (h : ∀ v' w', OwnE encV 51 3 w' B v' (n + m) (l ++ l') -> Below B w w' -> wpList Try.prog ops Q rest (a.put o.dst v') w') : wpList Try.prog ops Q (o :: rest) a w := by
  obtain ⟨v', w', hr, h2, h3, h4, h5⟩ := run_concatV o.type hown hu hnm hB
  refine wpList_plain hgd fun K hK => ?_
  unfold Oper.wp execOp
  simp only [ho, resolve, invoke, builtin, Sem.run_bind, Sem.run_pure, Result.andThen_ok, List.map_toArray, List.map_cons, List.map_nil, hs, hx, hr]
  exact hK _ _ (h v' w' h2 h3)
section
variable {w w' w0 w1 : World} {B : Nat} {e e' : TypeId} {sz k : Nat} {v : Value} {xss : List (Nat × List Value)}
theorem OwnLL.pushV (h : OwnLL w0 B e e' sz v k xss) : ∃ vals, OwnE (fun u : Value => [u]) e 1 w0 B v k vals /\ ∀ (w1 : World) (g cap : Nat) (u : Value) (n : Nat) (xs : List Value), PushedE (fun u : Value => [u]) e 1 B w0 w1 v g cap k vals u ->
  w0.ownsRow B e' sz u n xs -> Apart v u -> OwnLL w1 B e e' sz (sl g (k + 1) cap) (k + 1) (xss ++ [(n, xs)]) := by
  obtain ⟨h1, vals, h2, h3⟩ := h
  refine ⟨vals, by unfold OwnE; rw [flat1]; exact h2, fun w1 g cap u n xs hp hu hap => ?_⟩
  have hl : vals.length = k := by have := h2.1; omega
  have hrow : w1.ownsRow B e 1 (sl g (k + 1) cap) (k + 1) (vals ++ [u]) := by have := hp.own; unfold OwnE at this; rw [flat1] at this; exact this
  have key : ∀ {u' : Value} {n' : Nat} {xs' : List Value}, w0.ownsRow B e' sz u' n' xs' -> Apart v u' -> w1.ownsRow B e' sz u' n' xs' /\ Apart (sl g (k + 1) cap) u' := fun {u' n' xs'} hr ha => by
   constructor
   ·refine World.ownsRow.kept hr hp.grow ?_
    cases hu' : u'.ownBlock with
    | none => exact .inl rfl
    | some z =>
      refine .inr (fun q => ?_)
      rcases ha with s | s | s
      ·rw [s] at q; cases q
      ·rw [s] at hu'; cases hu'
      ·exact s (by rw [<- q, hu'])
   ·cases hu' : u'.ownBlock with
    | none => exact .inr (.inl hu')
    | some z =>
      refine .inr (.inr (fun q => ?_))
      rw [hu'] at q
      have hz : z = g := by simpa [Value.ownBlock, eq_comm] using q
      subst hz
      rcases hp.at_ with r | r
      ·rcases ha with s | s | s
       ·rw [s] at r; cases r
       ·rw [s] at hu'; cases hu'
       ·exact s (by rw [r, hu'])
      ·have := (hr.lt z hu').2; omega
  refine ⟨by simp [h1], vals ++ [u], hrow, fun i hi => ?_⟩
  rcases Nat.lt_or_ge i k with g1 | g1
  ·have e1 : (vals ++ [u]).getD i undef = vals.getD i undef := by simp [List.getD, List.getElem?_append_left (show i < vals.length by omega)]
   have e2 : (xss ++ [(n, xs)]).getD i (0, []) = xss.getD i (0, []) := by simp [List.getD, List.getElem?_append_left (show i < xss.length by omega)]
   rw [e1, e2]
   exact key (h3 i g1).1 (h3 i g1).2
  ·have hik : i = k := by omega
   subst hik
   have e1 : (vals ++ [u]).getD i undef = u := by simp [List.getD, <- hl]
   have e2 : (xss ++ [(n, xs)]).getD i (0, []) = (n, xs) := by simp [List.getD, <- h1]
   rw [e1, e2]
   exact key hu hap
theorem OwnLL.more' (h : OwnLL w B e e' sz v k xss) {B' : Nat} (hB : B' <= B) : OwnLL w B' e e' sz v k xss := by
 have key : ∀ {t : TypeId} {s : Nat} {u : Value} {n : Nat} {xs : List Value}, w.ownsRow B t s u n xs -> w.ownsRow B' t s u n xs := fun {t s u n xs} h => by
  obtain ⟨h1, h2⟩ := h
  refine ⟨h1, ?_⟩
  rcases h2 with h2 | ⟨g, cap, cur, rfl, hg, r⟩
  ·exact .inl h2
  ·exact .inr ⟨g, cap, cur, rfl, by omega, r⟩
 obtain ⟨h1, vals, h2, h3⟩ := h
 exact ⟨h1, vals, key h2, fun i hi => ⟨key (h3 i hi).1, (h3 i hi).2⟩⟩
theorem OwnLL.fr' {X : Nat -> Prop} (h : OwnLL w B e e' sz v k xss) (hf : Fr X w w') (hX : ∀ q, B <= q -> ¬ X q) : OwnLL w' B e e' sz v k xss := by
 obtain ⟨h1, vals, h2, h3⟩ := h
 exact ⟨h1, vals, rowFr h2 hf (fun q hq => hX q (h2.lt q hq).1), fun i hi => ⟨rowFr (h3 i hi).1 hf (fun q hq => hX q ((h3 i hi).1.lt q hq).1), (h3 i hi).2⟩⟩
theorem OwnLL.form' (h : OwnLL w B e e' sz v k xss) : ∃ A c, v = .slice A k c /\ k <= c /\ c <= 9223372036854775807 := by
 obtain ⟨h1, vals, h2, h3⟩ := h
 rcases h2.2 with ⟨e1, e0⟩ | ⟨g, cap, cur, e1, _, _, q1, q2, _⟩
 ·exact ⟨none, 0, by rw [e1, e0], by omega, by omega⟩
 ·unfold maxLen at q2
  exact ⟨_, cap, e1, q1, by omega⟩
end
end Go.Proofs.Ytacgakkcpmhgmaa
namespace Go.Proofs.Ytacgakkcpmhgmaa
open Go Go.RowKit Go.Proofs
theorem info_vrow : (Try.prog.info? 36).map (fun i => (i.zero, i.size, i.bytes)) = some (some (.slice none 0 0), 1, 24) := by kernel_rfl
def xssV (E : List (List V3)) (ss : List Nat) : List (Nat × List Value) := ss.map fun s => ((E.getD s []).length, (E.getD s []).flatMap encV)
theorem xssV_step {ss : List Nat} {j : Nat} (h : j < ss.length) (E : List (List V3)) : xssV E (ss.take (j + 1)) = xssV E (ss.take j) ++ [((E.getD (ss.getD j 0) []).length, (E.getD (ss.getD j 0) []).flatMap encV)] := by
 unfold xssV
 rw [List.take_add_one, List.getElem?_eq_getElem h, List.map_append, List.getD_eq_getElem?_getD (l := ss), List.getElem?_eq_getElem h]
 rfl
end Go.Proofs.Ytacgakkcpmhgmaa
namespace Go.Proofs.Ytacgakkcpmhgmaa
open Go Go.RowKit Go.Proofs
theorem set_flat : ∀ (l : List V3) (i : Nat) (u : V3), (((l.flatMap encV).set (i * 3) (.int .i64 u.1)).set (i * 3 + 1) (.int .i64 u.2.1)).set (i * 3 + 2) (.int .i64 u.2.2) = (l.set i u).flatMap encV
 | [], i, u => by simp
 | a :: l, 0, u => rfl
 | a :: l, i + 1, u => by
   have ih := set_flat l i u
   rw [show (i + 1) * 3 = i * 3 + 1 + 1 + 1 by omega]
   show Value.int .i64 a.1 :: Value.int .i64 a.2.1 :: Value.int .i64 a.2.2 :: ((((l.flatMap encV).set (i * 3) (.int .i64 u.1)).set (i * 3 + 1) (.int .i64 u.2.1)).set (i * 3 + 2) (.int .i64 u.2.2)) = _
   rw [ih]
   rfl
def zV : V3 := (0, 0, 0)
def mkV (l : Nat) : Array Value := madeCells #[.int .i64 0, .int .i64 0, .int .i64 0] (l * 3)
theorem mkV_any (l : Nat) (hl : l <= 1000) (W : World) : (Instr.makeSlice 36 (.int .i64 (l : Int)) (.int .i64 (l : Int))).run Try.prog W = .ok (.slice (some ⟨W.heap.size, 0, none⟩) l l) (W.alloc (.cells (mkV l) 51)) := by
 obtain ⟨i0, hi, hz0, hz1, hz2⟩ := info_parts info_vec
 have h := run_make (P := Try.prog) W 36 51 i0 _ Try.underlying36 hi hz0 .i64 .i64 l l (by omega) (Int.le_refl _) (by rw [hz2]; omega) (by omega)
 rw [h, hz1]
 simp only [Int.toNat_natCast]
 rfl
theorem own_mkV (l : Nat) (hl : l <= 1000) (w : World) : OwnE encV 51 3 (w.alloc (.cells (mkV l) 51)) w.heap.size (sl w.heap.size l l) l (List.replicate l zV) := by
 have hlen : ((List.replicate l zV).flatMap encV).length = l * 3 := by rw [flatMap_len encV 3 encV_len, List.length_replicate]
 have hsz : (mkV l).size = l * 3 := by simp [mkV, size_madeCells]
 refine ⟨hlen, .inr ⟨w.heap.size, l, _, rfl, Nat.le_refl _, heap_alloc_new w _, Nat.le_refl _, by unfold maxLen; omega, hsz, ?_⟩⟩
 apply List.ext_getElem?
 intro j
 rcases Nat.lt_or_ge j (l * 3) with h | h
 ·have e : j = j / 3 * 3 + j % 3 := by omega
  have h1 : ((List.replicate l zV).flatMap encV)[j]? = (encV zV)[j % 3]? := by
   conv => lhs; rw [e]
   rw [flatMap_at encV 3 encV_len _ _ _ (by rw [List.length_replicate]; omega) (by omega), List.getElem_replicate]
  rw [h1, List.getElem?_take, if_pos h]
  have h3 : j % 3 < 3 := by omega
  have h2 : (mkV l).toList[j]? = (encV zV)[j % 3]? := by
   rw [Array.getElem?_toList, Array.getElem?_eq_getElem (by rw [hsz]; exact h)]
   simp [mkV, madeCells]
   generalize j % 3 = r at h3 ⊢
   rcases (show r = 0 \/ r = 1 \/ r = 2 by omega) with rfl | rfl | rfl <;> rfl
  exact h2
 ·rw [List.getElem?_eq_none (by rw [List.length_take]; omega), List.getElem?_eq_none (by omega)]
theorem OwnE.storeV {w : World} {B g n c : Nat} {l : List V3} (h : OwnE encV 51 3 w B (sl g n c) n l) (i : Nat) (u : V3) :
  OwnE encV 51 3 (((w.setCell ⟨g, i * 3, none⟩ (.int .i64 u.1)).setCell ⟨g, i * 3 + 1, none⟩ (.int .i64 u.2.1)).setCell ⟨g, i * 3 + 2, none⟩ (.int .i64 u.2.2)) B (sl g n c) n (l.set i u) := by
  have h1 := (World.ownsRow.stored h (i * 3) (.int .i64 u.1)).1
  have h2 := (World.ownsRow.stored h1 (i * 3 + 1) (.int .i64 u.2.1)).1
  have h3 := (World.ownsRow.stored h2 (i * 3 + 2) (.int .i64 u.2.2)).1
  unfold OwnE
  rw [<- set_flat]
  exact h3
def pickL (vs : List V3) (ls : List Nat) (l j : Nat) : List V3 := (ls.take j).map (fun a => vs.getD a zV) ++ List.replicate (l - j) zV
theorem pickL_step (vs : List V3) {ls : List Nat} {l j : Nat} (hl : ls.length = l) (hj : j < l) : (pickL vs ls l j).set j (vs.getD (ls.getD j 0) zV) = pickL vs ls l (j + 1) := by
 unfold pickL
 have hlen : ((ls.take j).map fun a => vs.getD a zV).length = j := by simp; omega
 rw [List.set_append_right _ _ (by omega), hlen, Nat.sub_self, show l - j = (l - (j + 1)) + 1 by omega, List.replicate_succ, List.set_cons_zero,
  List.take_add_one, List.getElem?_eq_getElem (show j < ls.length by omega), List.map_append, List.append_assoc]
 simp [List.getD, List.getElem?_eq_getElem (show j < ls.length by omega)]
theorem pickL_all (vs : List V3) {ls : List Nat} {l : Nat} (hl : ls.length = l) : pickL vs ls l l = ls.map fun a => vs.getD a zV := by
 unfold pickL
 rw [Nat.sub_self, List.take_of_length_le (by omega)]
 simp
end Go.Proofs.Ytacgakkcpmhgmaa
namespace Go.Proofs.Ytacgakkcpmhgmaa
open Go Go.RowKit Go.Proofs
def xssT (T : List (List Nat)) (j : Nat) : List (Nat × List Value) := (List.range j).map fun i => ((T.getD i []).length, (intsN (T.getD i [])).map (Value.int .i64))
def xssK (E : List (List V3)) (ls : List Nat) (l j : Nat) : List (Nat × List Value) := (List.range j).map fun i => (l, (ls.map fun a => (E.getD i []).getD a zV).flatMap encV)
theorem xssT_succ (T : List (List Nat)) (j : Nat) : xssT T (j + 1) = xssT T j ++ [((T.getD j []).length, (intsN (T.getD j [])).map (Value.int .i64))] := by unfold xssT; rw [List.range_succ, List.map_append]; rfl
theorem xssK_succ (E : List (List V3)) (ls : List Nat) (l j : Nat) : xssK E ls l (j + 1) = xssK E ls l j ++ [(l, (ls.map fun a => (E.getD j []).getD a zV).flatMap encV)] := by unfold xssK; rw [List.range_succ, List.map_append]; rfl
section
variable {w w' V V' : World} {B B' : Nat} {e e' t : TypeId} {sz k : Nat} {v u : Value} {xss : List (Nat × List Value)}
theorem _root_.Go.Proofs.Ytacgakkcpmhgmaa.below_size {C : Nat} (h : Below C w w') : w.heap.size <= w'.heap.size := h.size
theorem apart_new {t s n : Nat} {xs : List Value} (h : OwnLL V B e e' sz v k xss) (hu : V'.ownsRow V.heap.size t s u n xs) : Apart v u := by
 cases hv : v.ownBlock with
 | none => exact .inl hv
 | some z =>
   refine .inr (.inr (fun q => ?_))
   rw [hv] at q
   have h1 := (h.lt z hv).2
   have h2 := (hu.lt z q.symm).1
   omega
theorem pushedE_of {g cap n : Nat} {vals : List Value} (h : V.ownsRow B e 1 v n vals) (q1 : V'.ownsRow B e 1 (.slice (some ⟨g, 0, none⟩) (n + 1) cap) (n + 1) (vals ++ #[u].toList)) (q2 : V.grownBy V' v.ownBlock) (q3 : v.ownBlock = some g \/ g = V.heap.size) : PushedE (fun u : Value => [u]) e 1 B V V' v g cap n vals u :=
 ⟨by unfold OwnE; rw [flat1]; exact q1, q2, q3.elim .inl (fun q => .inr (Nat.le_of_eq q.symm)), h.lt⟩
theorem OwnLL.keepG {n s : Nat} {xs : List Value} (h : OwnLL V B e e' sz v k xss) (hg : V.grownBy V' u.ownBlock) (hu : V.ownsRow B' t s u n xs) (h1 : e ≠ t) (h2 : e' ≠ t) : OwnLL V' B e e' sz v k xss := by
 have key : ∀ {x : Value} {a b c : Nat} {ys : List Value}, V.ownsRow B a b x c ys -> a ≠ t -> V'.ownsRow B a b x c ys := fun {x a b c ys} hr hne => World.ownsRow.kept hr hg (by
  cases hx : x.ownBlock with
  | none => exact .inl rfl
  | some z => exact .inr (fun q => rows_ne hr hu hne z hx q.symm))
 obtain ⟨h3, vals, h4, h5⟩ := h
 exact ⟨h3, vals, key h4 h1, fun i hi => ⟨key (h5 i hi).1 h2, (h5 i hi).2⟩⟩
theorem below_grown {row : Option Nat} (h : Below B w V) (hg : V.grownBy V' row) (hB : B <= V.heap.size) (hr : ∀ z, row = some z -> B <= z) : Below B w V' := h.grown hg hB hr
end
def PickAt (w4 W : World) (B b4 : Nat) (T : List (List Nat)) (E : List (List V3)) (ls : List Nat) (l j : Nat) : Prop :=
 ∃ XA xc YA yc, Blk W b4 30 #[.slice XA j xc, .slice YA j yc] /\ OwnLL W B 22 3 1 (.slice XA j xc) j (xssT T j) /\ OwnLL W B 36 51 3 (.slice YA j yc) j (xssK E ls l j) /\ Fr (fun q => q = b4) w4 W
theorem pickEnd {w4 wr V : World} {B b4 j g1 c1 g2 c2 m l : Nat} {T : List (List Nat)} {E : List (List V3)} {ls : List Nat} {x y : Value}
  (hx : Blk V b4 30 #[x, y]) (hm : m = (T.getD j []).length) (hn : OwnLL V B 22 3 1 (sl g1 (j + 1) c1) (j + 1) (xssT T j ++ [(m, (intsN (T.getD j [])).map (Value.int .i64))])) (ho : OwnLL V B 36 51 3 (sl g2 (j + 1) c2) (j + 1) (xssK E ls l j ++ [(l, (ls.map fun a => (E.getD j []).getD a zV).flatMap encV)]))
  (hb : Below B wr V) (hB : B <= wr.heap.size) (hb4 : b4 < B) (hf : Fr (fun q => q = b4) w4 wr) (hw4 : w4.heap.size = B) :
  PickAt w4 ((V.setCell ⟨b4, 0, none⟩ (sl g1 (j + 1) c1)).setCell ⟨b4, 1, none⟩ (sl g2 (j + 1) c2)) B b4 T E ls l (j + 1) := by
  have hfr : Fr (fun q => q = b4) V ((V.setCell ⟨b4, 0, none⟩ (sl g1 (j + 1) c1)).setCell ⟨b4, 1, none⟩ (sl g2 (j + 1) c2)) := ((Fr.refl (fun q => q = b4) V).set_ (p := ⟨b4, 0, none⟩) (.inl rfl) _).set_ (p := ⟨b4, 1, none⟩) (.inl rfl) _
  rw [hm, <- xssT_succ] at hn
  rw [<- xssK_succ] at ho
  refine ⟨_, _, _, _, ?_, hn.fr' hfr (fun q hq e => by omega), ho.fr' hfr (fun q hq e => by omega), ?_⟩
  ·have := (hx.set_ 0 (sl g1 (j + 1) c1)).set_ 1 (sl g2 (j + 1) c2)
   simpa using this
  ·have h1 : Fr (fun q => B <= q) wr V := ⟨hb.os, hb.tape, hb.output, hb.size, fun q hq hx => hb.block q (by omega)⟩
   exact (hf.then_ h1 (fun q hq e => by omega)).trans hfr
end Go.Proofs.Ytacgakkcpmhgmaa
namespace Go.Proofs.Ytacgakkcpmhgmaa
open Go Go.RowKit Go.Proofs
theorem within_any (x n : Int) (hn : 0 < n) (hn2 : n <= 1099511627776) (w : World) :
  Calls Try.prog 58 #[.int .i64 x, .int .i64 n] w fun e w' => e = .returned (.int .i64 (x % n)) /\ w = w' := by
  have h1 := Int.tmod_lt_of_pos x hn
  have h2 : -n < x.tmod n := by
   have := Int.tmod_lt_of_pos (-x) hn
   rw [Int.neg_tmod] at this
   omega
  have hE : x % n = if x.tmod n < 0 then x.tmod n + n else x.tmod n := by
   have h3 := Int.emod_eq_tmod (a := x) (b := n)
   have hd : (n.natAbs : Int) = n := Int.natAbs_of_nonneg (Int.le_of_lt hn)
   have h4 := Int.emod_nonneg x (Int.ne_of_gt hn)
   have h5 := Int.emod_lt_of_pos x hn
   have e1 := Int.emod_add_mul_ediv x n
   have e2 := Int.tmod_add_mul_tdiv x n
   split
   ·rename_i hlt
    have : (x % n - (x.tmod n + n)) = n * (x.tdiv n - x / n - 1) := by
     rw [Int.mul_sub, Int.mul_sub, Int.mul_one]; omega
    have hq : x.tdiv n - x / n - 1 = 0 := by
     apply Classical.byContradiction
     intro hne
     rcases Int.lt_or_gt_of_ne hne with h | h
     ·have : n * (x.tdiv n - x / n - 1) <= n * (-1) := Int.mul_le_mul_of_nonneg_left (by omega) (by omega)
      omega
     ·have : n * 1 <= n * (x.tdiv n - x / n - 1) := Int.mul_le_mul_of_nonneg_left (by omega) (by omega)
      omega
    rw [hq] at this
    omega
   ·rename_i hge
    have : (x % n - x.tmod n) = n * (x.tdiv n - x / n) := by
     rw [Int.mul_sub]; omega
    have hq : x.tdiv n - x / n = 0 := by
     apply Classical.byContradiction
     intro hne
     rcases Int.lt_or_gt_of_ne hne with h | h
     ·have : n * (x.tdiv n - x / n) <= n * (-1) := Int.mul_le_mul_of_nonneg_left (by omega) (by omega)
      omega
     ·have : n * 1 <= n * (x.tdiv n - x / n) := Int.mul_le_mul_of_nonneg_left (by omega) (by omega)
      omega
    rw [hq] at this
    omega
  have E := Lib.hid hE
  have hne : ¬ n = 0 := by omega
  clear hE
  go_enter Try.func58, Try.ntmps58
  by_cases hlt : x.tmod n < 0
  ·go_wp2_with fail
   go_ret
   exact ⟨by rw [E.out, if_pos hlt]; rfl, rfl⟩
  ·go_wp2_with fail
   go_ret
   exact ⟨by rw [E.out, if_neg (by omega)]; rfl, rfl⟩
theorem AlikeN.congr {α β : Type} {T : List (List Nat)} {k : Nat} {g : Nat -> α} {g' : Nat -> β} (hT : RectN T k) (h : ∀ x y, x < T.length -> y < T.length -> (g x = g y ↔ g' x = g' y)) {x y : Nat} (hx : x < T.length) (hy : y < T.length) : AlikeN T k g x y ↔ AlikeN T k g' x y :=
 ⟨fun hh w hw => (h _ _ (runN_lt hT w x hx hw) (runN_lt hT w y hy hw)).1 (hh w hw), fun hh w hw => (h _ _ (runN_lt hT w x hx hw) (runN_lt hT w y hy hw)).2 (hh w hw)⟩
theorem alike_key {T : List (List Nat)} {k n q : Nat} {E : List (List V3)} (hT : RectN T k) (hl : T.length = n) (hq : ∀ i, i < n -> (E.getD i []).length = q) (hin : ∀ i, i < n -> ∀ u ∈ E.getD i [], ∀ c, In64 (atV u c)) {x y : Nat} (hx : x < n) (hy : y < n) :
  AlikeN T k (fun x => strOfNums (keyZ (E.getD x []))) x y ↔ AlikeN T k (fun x => E.getD x []) x y :=
  AlikeN.congr hT (fun a b ha hb => key_iff (hin a (by omega)) (hin b (by omega)) (by rw [hq a (by omega), hq b (by omega)])) (by omega) (by omega)
def T1 : List (List Nat) := [[0]]
def T2 : List (List Nat) := [[1], [0]]
theorem rect1 : RectN T1 1 := ⟨by decide, fun s hs => by
 obtain rfl : s = 0 := by have : s < 1 := hs; omega
 rfl, fun s a hs ha => by
 obtain rfl : s = 0 := by have : s < 1 := hs; omega
 obtain rfl : a = 0 := by omega
 decide⟩
theorem rect2 : RectN T2 1 := ⟨by decide, fun s hs => by
 rcases (show s = 0 \/ s = 1 by have : s < 2 := hs; omega) with rfl | rfl <;> rfl, fun s a hs ha => by
 obtain rfl : a = 0 := by omega
 rcases (show s = 0 \/ s = 1 by have : s < 2 := hs; omega) with rfl | rfl <;> decide⟩
theorem rep1 (f : Nat -> Nat) : repN T1 (EF f) = [0] := by simp [repN, T1, bfsN, visitN, addN, EF]
theorem name1 (f : Nat -> Nat) : nameN T1 (EF f) 0 = 0 := by
 unfold nameN
 rw [rep1, if_pos (by decide)]
 simp [ixN, EF]
theorem rep2 (f : Nat -> Nat) (h : f 0 = f 1) : repN T2 (EF f) = [0] := by simp [repN, T2, bfsN, visitN, addN, EF, h]
theorem name2 (f : Nat -> Nat) (h : f 0 = f 1) {s : Nat} (hs : s < 2) : nameN T2 (EF f) s = 0 := by
 unfold nameN
 rcases (show s = 0 \/ s = 1 by omega) with rfl | rfl
 ·rw [rep2 f h, if_pos (by decide)]
  simp [ixN, EF]
 ·rw [rep2 f h, if_pos (by decide)]
  simp [ixN, EF, h]
end Go.Proofs.Ytacgakkcpmhgmaa
namespace Go.Proofs.Ytacgakkcpmhgmaa
open Go Go.RowKit Go.Proofs
theorem readsI_blk {w : World} {b : Nat} {l : List Int} (h : Blk w b 3 (l.map (Value.int .i64)).toArray) (hl : l.length <= 1000) : ReadsI w (.slice (some ⟨b, 0, none⟩) l.length l.length) l.length l := by
 refine ⟨rfl, some ⟨b, 0, none⟩, l.length, rfl, Nat.le_refl _, by unfold maxLen; omega, (fun e => by cases e), fun i hi => ⟨b, 0, rfl, fun j hj => ?_⟩⟩
 rw [Nat.zero_add, h.cell]
 simp [List.getElem?_eq_getElem hj, List.getD]
theorem readsV_blk {w : World} {b : Nat} (u : V3) (h : Blk w b 51 #[.int .i64 u.1, .int .i64 u.2.1, .int .i64 u.2.2]) : ReadsE encV 3 w (.slice (some ⟨b, 0, none⟩) 1 1) 1 [u] := by
 refine ⟨rfl, some ⟨b, 0, none⟩, 1, rfl, Nat.le_refl _, by unfold maxLen; omega, (fun e => by cases e), fun i x hi => ⟨b, 0, rfl, fun j v hj => ?_⟩⟩
 cases i with
 | succ i => simp at hi
 | zero =>
   have : x = u := by simpa using hi.symm
   subst this
   have e : 0 + 0 * 3 + j = j := by omega
   rw [e, h.cell]
   simpa [encV] using hj
theorem OwnLL.nextR {w : World} {B k : Nat} {v : Value} {xss : List (Nat × List Value)} {T : List (List Nat)} (h : OwnLL w B 22 3 1 v k xss) (hk : T.length = k) (hx : ∀ i, i < k -> xss.getD i (0, []) = ((T.getD i []).length, (intsN (T.getD i [])).map (Value.int .i64))) : NextR w v T := by
 subst hk
 obtain ⟨h1, vals, h2, h3⟩ := h
 have hl : vals.length = T.length := by have := h2.1; omega
 rcases h2.2 with ⟨e1, e0⟩ | ⟨g, cap, cur, e, _, _, q1, q2, _⟩
 ·have : T = [] := List.eq_nil_of_length_eq_zero e0
  subst this; subst e1
  exact ⟨none, 0, rfl, Nat.le_refl _, Nat.zero_le _, fun _ => rfl, fun i hi => absurd hi (by simp)⟩
 ·subst e
  refine ⟨_, cap, rfl, q1, q2, (fun e => by cases e), fun i hi => ⟨g, 0, vals.getD i undef, rfl, ?_, ?_⟩⟩
  ·rw [Nat.zero_add, World.ownsRow.cellAt h2 i (by omega)]
   simp [List.getD, List.getElem?_eq_getElem (show i < vals.length by omega)]
  ·have h4 := (h3 i hi).1
   rw [hx i hi] at h4
   exact Own.readsI h4
theorem OwnLL.emitR {w : World} {B k : Nat} {v : Value} {xss : List (Nat × List Value)} {E : List (List V3)} (h : OwnLL w B 36 51 3 v k xss) (hk : E.length = k) (hx : ∀ i, i < k -> xss.getD i (0, []) = ((E.getD i []).length, (E.getD i []).flatMap encV)) : EmitR w v E := by
 subst hk
 obtain ⟨h1, vals, h2, h3⟩ := h
 have hl : vals.length = E.length := by have := h2.1; omega
 rcases h2.2 with ⟨e1, e0⟩ | ⟨g, cap, cur, e, _, _, q1, q2, _⟩
 ·have : E = [] := List.eq_nil_of_length_eq_zero e0
  subst this; subst e1
  exact ⟨none, 0, rfl, Nat.le_refl _, Nat.zero_le _, fun _ => rfl, fun i hi => absurd hi (by simp)⟩
 ·subst e
  refine ⟨_, cap, rfl, q1, q2, (fun e => by cases e), fun i hi => ⟨g, 0, vals.getD i undef, rfl, ?_, ?_⟩⟩
  ·rw [Nat.zero_add, World.ownsRow.cellAt h2 i (by omega)]
   simp [List.getD, List.getElem?_eq_getElem (show i < vals.length by omega)]
  ·have h4 := (h3 i hi).1
   rw [hx i hi] at h4
   exact OwnE.reads (enc := encV) h4 encV_len (by decide)
def E2 : List (List V3) := [[(1, 2, 3)], [(1, 2, 3)]]
theorem E2_at {i : Nat} (h : i < 2) : E2.getD i [] = [(1, 2, 3)] := by
 rcases (show i = 0 \/ i = 1 by omega) with rfl | rfl <;> rfl
theorem alike2 : AlikeN T2 1 (fun x => strOfNums (keyZ (E2.getD x []))) 0 1 := fun w hw => by
 have h0 := runN_lt rect2 w 0 (by decide) hw
 have h1 := runN_lt rect2 w 1 (by decide) hw
 show strOfNums (keyZ (E2.getD _ [])) = strOfNums (keyZ (E2.getD _ []))
 rw [E2_at h0, E2_at h1]
end Go.Proofs.Ytacgakkcpmhgmaa
namespace Go.Proofs.Ytacgakkcpmhgmaa
def lawM (ns : List Int) (i : Nat) : Nat := if i < ns.length then (ns.getD i 0 % 1099511627776).toNat else i * 7
def lawT (ns : List Int) (k n : Nat) : List (List Nat) := (List.range k).map fun i => (List.range n).map fun j => lawM ns i / k ^ j % k
def lawO (ns : List Int) (k n : Nat) : List Nat := (List.range k).map fun i => lawM ns i / k ^ n % 3
theorem lawT_len (ns : List Int) (k n : Nat) : (lawT ns k n).length = k := by simp [lawT]
theorem lawO_len (ns : List Int) (k n : Nat) : (lawO ns k n).length = k := by simp [lawO]
theorem lawT_at (ns : List Int) {k n i : Nat} (h : i < k) : (lawT ns k n).getD i [] = (List.range n).map fun j => lawM ns i / k ^ j % k := by simp [lawT, List.getD, h]
theorem law_rect (ns : List Int) {k n : Nat} (hk : 0 < k) : RectN (lawT ns k n) n := ⟨by rw [lawT_len]; exact hk, fun s hs => by
 rw [lawT_len] at hs
 rw [lawT_at ns hs]
 simp, fun s a hs ha => by
 rw [lawT_len] at hs ⊢
 unfold trN
 rw [lawT_at ns hs]
 have e : ((List.range n).map fun j => lawM ns s / k ^ j % k).getD a 0 = lawM ns s / k ^ a % k := by simp [List.getD, ha]
 rw [e]
 exact Nat.mod_lt _ hk⟩
theorem lawO_lt (ns : List Int) (k n i : Nat) : (lawO ns k n).getD i 0 <= 2 := by
 rcases Nat.lt_or_ge i k with h | h
 ·have e : (lawO ns k n).getD i 0 = lawM ns i / k ^ n % 3 := by simp [lawO, List.getD, h]
  rw [e]
  omega
 ·have e : (lawO ns k n).getD i 0 = 0 := by
   rw [List.getD_eq_getElem?_getD, List.getElem?_eq_none (by rw [lawO_len]; exact h)]
   rfl
  omega
theorem lawM_lt (ns : List Int) {i : Nat} (h : i <= 9) : lawM ns i < 1099511627776 := by
 unfold lawM
 split
 ·have h1 := Int.emod_lt_of_pos (ns.getD i 0) (show (0 : Int) < 1099511627776 by decide)
  have h2 := Int.emod_nonneg (ns.getD i 0) (show (1099511627776 : Int) ≠ 0 by decide)
  omega
 ·omega
end Go.Proofs.Ytacgakkcpmhgmaa
