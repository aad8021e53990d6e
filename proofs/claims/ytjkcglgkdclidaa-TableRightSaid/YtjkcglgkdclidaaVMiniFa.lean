/- A forward machine in memory; forward.right, of a machine. forward.key: what a state says, as bytes. slices.Clone of Vecs, forward.vecs; rows of rows of any size. -/
import Derived.Test.YtjkcglgkdclidaaVMiniU
import Derived.Test.YtjkcglgkdclidaaVAny
import Derived.Laws.BytesArg
set_option linter.unusedVariables false
set_option linter.unusedSimpArgs false
namespace Go.Proofs.Ytjkcglgkdclidaa
open Go Go.RowKit Go.Proofs
theorem tkg (G : List Nat) {P : Program} {ops : Array Oper} {Q : Exit -> Act -> World -> Prop} {md : Region.Mode} {S : World -> Prop} {m i : Nat} {oi : Oper} {v : Value} {fuel : Nat} {listed : Array Bool} {a : Act} {w : World} (hS : S w)
  (hv : ∀ w, S w -> (execOp a.eval oi).run P w = .ok (.value v) w) (h : anyX P md ops Q S m fuel (listed.setIfInBounds i true) (a.put oi.dst v) w)
  (hi : ops[i]? = some oi := by rfl) (hg : Region.wanted oi (yielded ops a.tmps) = true := by rfl)
  (hs : Region.noSelect ops = true := by kernel_rfl) (hf : Region.free md ops listed i = true := by kernel_rfl) (hr : (Region.ready md ops listed).contains i = true := by kernel_rfl) (hw : gated md ops m G i = true := by kernel_rfl) (hG : (G.all fun g => !(listed.getD g true)) = true := by kernel_rfl)
  (hQ : ∀ c a w, Q (.panic c) (a.put oi.dst v) w -> Q (.panic c) a w := by exact fun _ _ _ h => h) : anyX P md ops Q S m (fuel + 1) listed a w :=
  anyX_takeG G hi hs hf hr hw hG hQ (Or.inl ⟨hg, hv⟩) hS h
abbrev V3 := Int × Int × Int
def encV (u : V3) : List Value := [.int .i64 u.1, .int .i64 u.2.1, .int .i64 u.2.2]
theorem encV_len (u : V3) : (encV u).length = 3 := rfl
def EmitR (w : World) (v : Value) (E : List (List V3)) : Prop :=
 ∃ a cap, v = .slice a E.length cap /\ E.length <= cap /\ cap <= maxLen /\ (a = none -> cap = 0) /\ ∀ i, i < E.length -> ∃ b off u, a = some ⟨b, off, none⟩ /\ w.cell? ⟨b, off + i, none⟩ = some u /\ ReadsE encV 3 w u (E.getD i []).length (E.getD i [])
section
variable {w w' : World} {v : Value} {E : List (List V3)}
theorem EmitR.same (h : EmitR w v E) (hk : ∀ b o x, w.cell? ⟨b, o, none⟩ = some x -> w'.cell? ⟨b, o, none⟩ = some x) : EmitR w' v E := by
 obtain ⟨a, cap, h1, h2, h3, h4, h5⟩ := h
 refine ⟨a, cap, h1, h2, h3, h4, fun i hi => ?_⟩
 obtain ⟨b, off, u, e, hc, hr⟩ := h5 i hi
 exact ⟨b, off, u, e, hk _ _ _ hc, hr.same hk⟩
theorem EmitR.below (h : EmitR w v E) (hb : Below w.heap.size w w') : EmitR w' v E := h.same fun b o x hx => bel_m hb hx
theorem EmitR.form (h : EmitR w v E) : ∃ a cap, v = .slice a E.length cap /\ E.length <= cap /\ cap <= 9223372036854775807 := by
 obtain ⟨a, cap, h1, h2, h3, _⟩ := h
 exact ⟨a, cap, h1, h2, by unfold maxLen at h3; exact h3⟩
theorem EmitR.at_ {a : Option Addr} {n cap : Nat} (h : EmitR w (.slice a n cap) E) {i : Nat} (hi : i < E.length) : ∃ b off A m c, a = some ⟨b, off, none⟩ /\ m = (E.getD i []).length /\ w.cell? ⟨b, off + i, none⟩ = some (.slice A m c) /\ ReadsE encV 3 w (.slice A m c) m (E.getD i []) /\ m <= c /\ c <= 9223372036854775807 := by
 obtain ⟨a', cap', h1, h2, h3, h4, h5⟩ := h
 simp only [Value.slice.injEq] at h1
 obtain ⟨rfl, -, rfl⟩ := h1
 obtain ⟨b, off, u, e, hc, hr⟩ := h5 i hi
 obtain ⟨A, c, e2, q1, q2, _⟩ := hr.form
 subst e2
 exact ⟨b, off, A, _, c, e, rfl, hc, hr, q1, q2⟩
end
end Go.Proofs.Ytjkcglgkdclidaa
namespace Go.Proofs.Ytjkcglgkdclidaa
open Go Go.RowKit Go.Proofs
def byZ (n : Int) (t : Nat) : Int := (n / 256 ^ t) % 256
def numZ (n : Int) (t : Nat) : List Int := (List.range t).map (byZ n)
def atV (u : V3) (c : Nat) : Int := if c = 0 then u.1 else if c = 1 then u.2.1 else u.2.2
def vecZ (u : V3) (c : Nat) : List Int := (List.range c).flatMap fun i => numZ (atV u i) 8
def keyZ (vs : List V3) : List Int := vs.flatMap fun u => vecZ u 3
def encB (b : Int) : List Value := [.int .u8 b]
theorem encB_len (b : Int) : (encB b).length = 1 := rfl
theorem numZ_succ (n : Int) (t : Nat) : numZ n (t + 1) = numZ n t ++ [byZ n t] := by unfold numZ; rw [List.range_succ, List.map_append]; rfl
theorem vecZ_succ (u : V3) (c : Nat) : vecZ u (c + 1) = vecZ u c ++ numZ (atV u c) 8 := by unfold vecZ; rw [List.range_succ, List.flatMap_append]; simp
theorem keyZ_take {vs : List V3} {i : Nat} (h : i < vs.length) : keyZ (vs.take (i + 1)) = keyZ (vs.take i) ++ vecZ (vs.getD i (0, 0, 0)) 3 := by
 unfold keyZ
 rw [List.take_add_one, List.getElem?_eq_getElem h, List.flatMap_append, List.getD_eq_getElem?_getD, List.getElem?_eq_getElem h]
 simp
theorem numZ_len (n : Int) (t : Nat) : (numZ n t).length = t := by simp [numZ]
theorem vecZ_len (u : V3) (c : Nat) : (vecZ u c).length = c * 8 := by
 induction c with
 | zero => rfl
 | succ c ih => rw [vecZ_succ, List.length_append, ih, numZ_len]; omega
theorem info_byte : (Try.prog.info? 5).map (fun i => (i.zero, i.size, i.bytes)) = some (some (.int .u8 0), 1, 1) := by kernel_rfl
theorem div_in {z : Int} (h1 : -9223372036854775808 <= z) (h2 : z <= 9223372036854775807) (t : Nat) : -9223372036854775808 <= z / 256 ^ t /\ z / 256 ^ t <= 9223372036854775807 := by
 have hp : (0 : Int) < 256 ^ t := Int.pow_pos (by decide)
 constructor
 ·rw [Int.le_ediv_iff_mul_le hp]
  have : (1 : Int) <= 256 ^ t := hp
  have h3 : -9223372036854775808 * (256 : Int) ^ t <= -9223372036854775808 * 1 := Int.mul_le_mul_of_nonpos_left (by decide) this
  omega
 ·rcases Int.lt_or_le z 0 with h | h
  ·have := Int.ediv_neg_of_neg_of_pos h hp
   omega
  ·have := Int.ediv_le_self (256 ^ t) h
   omega
theorem div_succ (z : Int) (t : Nat) : z / 256 ^ (t + 1) = z / 256 ^ t / 256 := by
 rw [Int.pow_succ, Int.ediv_ediv_of_nonneg (Int.le_of_lt (Int.pow_pos (by decide)))]
def mkB (c : Nat) : Array Value := madeCells #[.int .u8 0] (c * 1)
theorem mkB_any (c : Nat) (hc : c <= 1000000) (W : World) : (Instr.makeSlice 34 (.int .i64 0) (.int .i64 (c : Int))).run Try.prog W = .ok (.slice (some ⟨W.heap.size, 0, none⟩) 0 c) (W.alloc (.cells (mkB c) 5)) := by
 obtain ⟨i0, hi, hz0, hz1, hz2⟩ := info_parts info_byte
 have h := run_make (P := Try.prog) W 34 5 i0 _ Try.underlying34 hi hz0 .i64 .i64 0 c (Int.le_refl _) (by omega) (by rw [hz2]; omega) (by omega)
 rw [h, hz1]
 simp only [Int.toNat_natCast, Int.toNat_zero]
 rfl
theorem own_mkB (c : Nat) (hc : c <= 1000000) (w : World) : OwnE encB 5 1 (w.alloc (.cells (mkB c) 5)) w.heap.size (sl w.heap.size 0 c) 0 [] := by
 refine ⟨by simp, .inr ⟨w.heap.size, c, _, rfl, Nat.le_refl _, heap_alloc_new w _, Nat.zero_le _, by unfold maxLen; omega, by simp [mkB, size_madeCells], ?_⟩⟩
 simp
theorem index_vec (u : V3) (c : Nat) (hc : c < 3) (W : World) : (Instr.index 45 (.agg #[.int .i64 u.1, .int .i64 u.2.1, .int .i64 u.2.2]) (.int .i64 (c : Int))).run Try.prog W = .ok (.int .i64 (atV u c)) W := by
 rcases (show c = 0 \/ c = 1 \/ c = 2 by omega) with rfl | rfl | rfl
 ·kernel_rfl
 ·kernel_rfl
 ·kernel_rfl
theorem byZ_in (z : Int) (t : Nat) : 0 <= byZ z t /\ byZ z t < 256 := by unfold byZ; omega
theorem keyZ_in {vs : List V3} : ∀ x ∈ keyZ vs, 0 <= x /\ x < 256 := by
 intro x hx
 unfold keyZ vecZ numZ at hx
 simp only [List.mem_flatMap, List.mem_map] at hx
 obtain ⟨_, _, _, _, t, _, rfl⟩ := hx
 exact byZ_in _ _
theorem bytes_inj : ∀ {a b : List Int}, (∀ x ∈ a, 0 <= x /\ x < 256) -> (∀ x ∈ b, 0 <= x /\ x < 256) -> (a.map fun n => UInt8.ofNat n.toNat) = (b.map fun n => UInt8.ofNat n.toNat) -> a = b
 | [], [], _, _, _ => rfl
 | [], _ :: _, _, _, h => by simp at h
 | _ :: _, [], _, _, h => by simp at h
 | x :: a, y :: b, ha, hb, h => by
   simp only [List.map_cons, List.cons.injEq] at h
   obtain ⟨h1, h2⟩ := h
   have hx := ha x (by simp); have hy := hb y (by simp)
   have h3 : x.toNat % 256 = y.toNat % 256 := by have := congrArg UInt8.toNat h1; simpa using this
   have h4 : x = y := by omega
   rw [h4, bytes_inj (fun q hq => ha q (by simp [hq])) (fun q hq => hb q (by simp [hq])) h2]
theorem strOfNums_inj {a b : List Int} (ha : ∀ x ∈ a, 0 <= x /\ x < 256) (hb : ∀ x ∈ b, 0 <= x /\ x < 256) (h : strOfNums a = strOfNums b) : a = b :=
 bytes_inj ha hb (congrArg (fun s : ByteArray => s.data.toList) h)
def In64 (z : Int) : Prop := -9223372036854775808 <= z /\ z <= 9223372036854775807
theorem numZ_inj {z y : Int} (hz : In64 z) (hy : In64 y) (h : numZ z 8 = numZ y 8) : z = y := by
 have hb : ∀ t, t < 8 -> byZ z t = byZ y t := fun t ht => by
  have := congrArg (fun l => l.getD t 0) h
  simpa [numZ, ht] using this
 unfold byZ at hb
 obtain ⟨z1, z2⟩ := hz
 obtain ⟨y1, y2⟩ := hy
 have h7 : z / 256 ^ 7 = y / 256 ^ 7 := by
  have := hb 7 (by omega)
  have e : (256 : Int) ^ 7 = 72057594037927936 := by decide
  rw [e] at this ⊢
  omega
 have down : ∀ t, t < 8 -> z / 256 ^ (t + 1) = y / 256 ^ (t + 1) -> z / 256 ^ t = y / 256 ^ t := fun t ht hh => by
  rw [div_succ, div_succ] at hh
  have := hb t ht
  omega
 have h0 := down 0 (by omega) (down 1 (by omega) (down 2 (by omega) (down 3 (by omega) (down 4 (by omega) (down 5 (by omega) (down 6 (by omega) h7))))))
 simpa using h0
theorem vecZ_inj {u v : V3} (hu : ∀ c, In64 (atV u c)) (hv : ∀ c, In64 (atV v c)) (h : vecZ u 3 = vecZ v 3) : u = v := by
 rw [vecZ_succ, vecZ_succ, vecZ_succ, vecZ_succ v, vecZ_succ v, vecZ_succ v] at h
 have h2 := List.append_inj' h (by rw [numZ_len, numZ_len])
 have h1 := List.append_inj' h2.1 (by rw [numZ_len, numZ_len])
 have h0 := List.append_inj' h1.1 (by rw [numZ_len, numZ_len])
 have e0 := numZ_inj (hu 0) (hv 0) h0.2
 have e1 := numZ_inj (hu 1) (hv 1) h1.2
 have e2 := numZ_inj (hu 2) (hv 2) h2.2
 obtain ⟨a, b, c⟩ := u
 obtain ⟨a', b', c'⟩ := v
 simp [atV] at e0 e1 e2
 simp [e0, e1, e2]
theorem keyZ_inj : ∀ {a b : List V3}, (∀ u ∈ a, ∀ c, In64 (atV u c)) -> (∀ u ∈ b, ∀ c, In64 (atV u c)) -> a.length = b.length -> keyZ a = keyZ b -> a = b
 | [], [], _, _, _, _ => rfl
 | [], _ :: _, _, _, h, _ => by simp at h
 | _ :: _, [], _, _, h, _ => by simp at h
 | x :: a, y :: b, ha, hb, hl, h => by
   have h' : vecZ x 3 ++ keyZ a = vecZ y 3 ++ keyZ b := h
   have h2 := List.append_inj h' (by rw [vecZ_len, vecZ_len])
   rw [vecZ_inj (ha x (by simp)) (hb y (by simp)) h2.1, keyZ_inj (fun u hu => ha u (by simp [hu])) (fun u hu => hb u (by simp [hu])) (by simpa using hl) h2.2]
theorem key_iff {a b : List V3} (ha : ∀ u ∈ a, ∀ c, In64 (atV u c)) (hb : ∀ u ∈ b, ∀ c, In64 (atV u c)) (hl : a.length = b.length) : strOfNums (keyZ a) = strOfNums (keyZ b) ↔ a = b :=
 ⟨fun h => keyZ_inj ha hb hl (strOfNums_inj keyZ_in keyZ_in h), fun h => by rw [h]⟩
end Go.Proofs.Ytjkcglgkdclidaa
namespace Go.Proofs.Ytjkcglgkdclidaa
open Go Go.RowKit Go.Proofs
theorem info_vec : (Try.prog.info? 45).map (fun i => (i.zero, i.size, i.bytes)) = some (some (.agg #[.int .i64 0, .int .i64 0, .int .i64 0]), 3, 24) := by kernel_rfl
theorem ownV_none (w : World) : OwnE encV 45 3 (w.alloc (.cells #[] 45)) w.heap.size (.slice (some ⟨w.heap.size, 0, none⟩) 0 0) 0 [] := by
 refine ⟨rfl, .inr ⟨w.heap.size, 0, #[], rfl, Nat.le_refl _, heap_alloc_new w _, ?_⟩⟩
 simp [maxLen]
theorem run_concatV (ty : TypeId) {w : World} {B n m : Nat} {v u : Value} {l l' : List V3} (hown : OwnE encV 45 3 w B v n l) (hu : ReadsE encV 3 w u m l') (hnm : n + m <= 1000000000) (hB : B <= w.heap.size) :
  ∃ v' w', (Builtin.append_ #[46, 46] ty #[v, u]).run Try.prog w = .ok v' w' /\ OwnE encV 45 3 w' B v' (n + m) (l ++ l') /\ Below B w w' /\ w.grownBy w' v.ownBlock /\ (v'.ownBlock = v.ownBlock \/ v'.ownBlock = some w.heap.size) := by
  obtain ⟨i0, hi, hz0, hz1, hz2⟩ := info_parts info_vec
  obtain ⟨h1, a, cap, rfl, h2, h3, h4, h5⟩ := hu
  cases m with
  | zero =>
    have hy : l' = [] := List.eq_nil_of_length_eq_zero h1
    subst hy
    cases a with
    | none =>
      have := h4 rfl
      subst this
      exact ⟨v, w, run_append_owned_none w B 46 ty 45 i0 3 Try.underlying46 hi v n _ hown, by simpa using hown, Below.refl _ _, ⟨rfl, rfl, rfl, Nat.le_refl _, fun _ _ _ => rfl⟩, .inl rfl⟩
    | some ad =>
      obtain ⟨v', w', hr, q2, q3, _, q5⟩ := run_append_own_at (P := Try.prog) w B 46 ty 45 i0 _ 3 24 Try.underlying46 hi hz0 hz1 hz2 rfl (by omega) v n _ hown
       ad 0 cap [] rfl (fun j u hj => by simp at hj) (by simp) (by unfold maxLen; omega) (by omega) hB
      exact ⟨v', w', hr, by unfold OwnE; simpa using q2, (Below.refl _ _).grown q3 hB (fun k hk => (hown.lt k hk).1), q3, q5⟩
  | succ m =>
    have hl0 : 0 < l'.length := by omega
    obtain ⟨b, off, rfl, -⟩ := h5 0 l'[0] (List.getElem?_eq_getElem hl0)
    have hfl : (l'.flatMap encV).length = l'.length * 3 := flatMap_len encV 3 encV_len l'
    have hcells : ∀ j u, (l'.flatMap encV)[j]? = some u -> w.cell? ((⟨b, off, none⟩ : Addr).add j) = some u := fun j u hj => by
     have e : (⟨b, off, none⟩ : Addr).add j = ⟨b, off + j, none⟩ := by unfold Addr.add; split <;> simp_all
     rw [e]
     have hlt : j < (l'.flatMap encV).length := by
      rcases Nat.lt_or_ge j (l'.flatMap encV).length with h | h
      ·exact h
      ·rw [List.getElem?_eq_none h] at hj; cases hj
     have hil : j / 3 < l'.length := by omega
     have hj2 : (l'.flatMap encV)[j / 3 * 3 + j % 3]? = some u := by rw [show j / 3 * 3 + j % 3 = j by omega]; exact hj
     rw [flatMap_at encV 3 encV_len l' (j / 3) (j % 3) hil (by omega)] at hj2
     obtain ⟨b', off', e', hc⟩ := h5 (j / 3) _ (List.getElem?_eq_getElem hil)
     simp only [Option.some.injEq, Addr.mk.injEq, and_true] at e'
     obtain ⟨rfl, rfl⟩ := e'
     have := hc _ _ hj2
     rw [show off + j / 3 * 3 + j % 3 = off + j by omega] at this
     exact this
    obtain ⟨v', w', hr, q2, q3, _, q5⟩ := run_append_own_at (P := Try.prog) w B 46 ty 45 i0 _ 3 24 Try.underlying46 hi hz0 hz1 hz2 rfl (by omega) v n _ hown
     ⟨b, off, none⟩ (m + 1) cap (l'.flatMap encV) (by rw [hfl, h1]) hcells (by intro u hu; obtain ⟨x, _, hx⟩ := List.mem_flatMap.1 hu; simp [encV] at hx; rcases hx with rfl | rfl | rfl <;> rfl) (by unfold maxLen; omega) (by omega) hB
    exact ⟨v', w', hr, by unfold OwnE; rw [List.flatMap_append]; exact q2, (Below.refl _ _).grown q3 hB (fun k hk => (hown.lt k hk).1), q3, q5⟩
theorem wpList_concatV {w : World} {ops : Array Oper} {rest : List Oper} {o : Oper} {a : Act} {Q : Exit -> Act -> World -> Prop} (hgd : o.guard = none) (s x : Operand)
  (ho : o.op = .call { callee := .builtin .append, args := #[s, x], argTypes := #[46, 46] })
  (B : Nat) (v : Value) (n : Nat) (l : List V3) (hs : a.eval s = v) (hown : OwnE encV 45 3 w B v n l)
  (u : Value) (m : Nat) (l' : List V3) (hx : a.eval x = u) (hu : ReadsE encV 3 w u m l') (hnm : n + m <= 1000000000) (hB : B <= w.heap.size)
  (h : ∀ v' w', OwnE encV 45 3 w' B v' (n + m) (l ++ l') -> Below B w w' -> wpList Try.prog ops Q rest (a.put o.dst v') w') : wpList Try.prog ops Q (o :: rest) a w := by
  obtain ⟨v', w', hr, h2, h3, h4, h5⟩ := run_concatV o.type hown hu hnm hB
  refine wpList_plain hgd fun K hK => ?_
  unfold Oper.wp execOp
  simp only [ho, resolve, invoke, builtin, Sem.run_bind, Sem.run_pure, Result.andThen_ok, List.map_toArray, List.map_cons, List.map_nil, hs, hx, hr]
  exact hK _ _ (h v' w' h2 h3)
section
variable {w w' w0 w1 : World} {B : Nat} {e e' : TypeId} {sz k : Nat} {v : Value} {xss : List (Nat × List Value)}
theorem OwnLL.pushV (h : OwnLL w0 B e e' sz v k xss) : ∃ vals, OwnE (fun u : Value => [u]) e 1 w0 B v k vals /\ ∀ (w1 : World) (g cap : Nat) (u : Value) (n : Nat) (xs : List Value), PushedE (fun u : Value => [u]) e 1 B w0 w1 v g cap k vals u ->
  w0.ownsRow B e' sz u n xs -> Apart v u -> OwnLL w1 B e e' sz (sl g (k + 1) cap) (k + 1) (xss ++ [(n, xs)]) := by
  obtain ⟨h1, vals, h2, h3⟩ := h
  refine ⟨vals, by unfold OwnE; rw [flat1]; exact h2, fun w1 g cap u n xs hp hu hap => ?_⟩
  have hl : vals.length = k := by have := h2.1; omega
  have hrow : w1.ownsRow B e 1 (sl g (k + 1) cap) (k + 1) (vals ++ [u]) := by have := hp.own; unfold OwnE at this; rw [flat1] at this; exact this
  have key : ∀ {u' : Value} {n' : Nat} {xs' : List Value}, w0.ownsRow B e' sz u' n' xs' -> Apart v u' -> w1.ownsRow B e' sz u' n' xs' /\ Apart (sl g (k + 1) cap) u' := fun {u' n' xs'} hr ha => by
   constructor
   ·refine World.ownsRow.kept hr hp.grow ?_
    cases hu' : u'.ownBlock with
    | none => exact .inl rfl
    | some z =>
      refine .inr (fun q => ?_)
      rcases ha with s | s | s
      ·rw [s] at q; cases q
      ·rw [s] at hu'; cases hu'
      ·exact s (by rw [<- q, hu'])
   ·cases hu' : u'.ownBlock with
    | none => exact .inr (.inl hu')
    | some z =>
      refine .inr (.inr (fun q => ?_))
      rw [hu'] at q
      have hz : z = g := by simpa [Value.ownBlock, eq_comm] using q
      subst hz
      rcases hp.at_ with r | r
      ·rcases ha with s | s | s
       ·rw [s] at r; cases r
       ·rw [s] at hu'; cases hu'
       ·exact s (by rw [r, hu'])
      ·have := (hr.lt z hu').2; omega
  refine ⟨by simp [h1], vals ++ [u], hrow, fun i hi => ?_⟩
  rcases Nat.lt_or_ge i k with g1 | g1
  ·have e1 : (vals ++ [u]).getD i undef = vals.getD i undef := by simp [List.getD, List.getElem?_append_left (show i < vals.length by omega)]
   have e2 : (xss ++ [(n, xs)]).getD i (0, []) = xss.getD i (0, []) := by simp [List.getD, List.getElem?_append_left (show i < xss.length by omega)]
   rw [e1, e2]
   exact key (h3 i g1).1 (h3 i g1).2
  ·have hik : i = k := by omega
   subst hik
   have e1 : (vals ++ [u]).getD i undef = u := by simp [List.getD, <- hl]
   have e2 : (xss ++ [(n, xs)]).getD i (0, []) = (n, xs) := by simp [List.getD, <- h1]
   rw [e1, e2]
   exact key hu hap
theorem OwnLL.more' (h : OwnLL w B e e' sz v k xss) {B' : Nat} (hB : B' <= B) : OwnLL w B' e e' sz v k xss := by
 have key : ∀ {t : TypeId} {s : Nat} {u : Value} {n : Nat} {xs : List Value}, w.ownsRow B t s u n xs -> w.ownsRow B' t s u n xs := fun {t s u n xs} h => by
  obtain ⟨h1, h2⟩ := h
  refine ⟨h1, ?_⟩
  rcases h2 with h2 | ⟨g, cap, cur, rfl, hg, r⟩
  ·exact .inl h2
  ·exact .inr ⟨g, cap, cur, rfl, by omega, r⟩
 obtain ⟨h1, vals, h2, h3⟩ := h
 exact ⟨h1, vals, key h2, fun i hi => ⟨key (h3 i hi).1, (h3 i hi).2⟩⟩
theorem OwnLL.fr' {X : Nat -> Prop} (h : OwnLL w B e e' sz v k xss) (hf : Fr X w w') (hX : ∀ q, B <= q -> ¬ X q) : OwnLL w' B e e' sz v k xss := by
 obtain ⟨h1, vals, h2, h3⟩ := h
 exact ⟨h1, vals, rowFr h2 hf (fun q hq => hX q (h2.lt q hq).1), fun i hi => ⟨rowFr (h3 i hi).1 hf (fun q hq => hX q ((h3 i hi).1.lt q hq).1), (h3 i hi).2⟩⟩
theorem OwnLL.form' (h : OwnLL w B e e' sz v k xss) : ∃ A c, v = .slice A k c /\ k <= c /\ c <= 9223372036854775807 := by
 obtain ⟨h1, vals, h2, h3⟩ := h
 rcases h2.2 with ⟨e1, e0⟩ | ⟨g, cap, cur, e1, _, _, q1, q2, _⟩
 ·exact ⟨none, 0, by rw [e1, e0], by omega, by omega⟩
 ·unfold maxLen at q2
  exact ⟨_, cap, e1, q1, by omega⟩
end
end Go.Proofs.Ytjkcglgkdclidaa
