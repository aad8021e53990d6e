/- A forward machine in memory; forward.right, of a machine. -/
import Derived.Test.YtdcokkgdahbinaaVMiniX
import Derived.Test.YtdcokkgdahbinaaVAny
set_option linter.unusedVariables false
set_option linter.unusedSimpArgs false
set_option maxRecDepth 100000
set_option maxHeartbeats 8000000
namespace Go.Proofs.Ytdcokkgdahbinaa
open Go Go.RowKit Go.Proofs
theorem tkg (G : List Nat) {P : Program} {ops : Array Oper} {Q : Exit -> Act -> World -> Prop} {md : Region.Mode} {S : World -> Prop} {m i : Nat} {oi : Oper} {v : Value} {fuel : Nat} {listed : Array Bool} {a : Act} {w : World} (hS : S w)
  (hv : ∀ w, S w -> (execOp a.eval oi).run P w = .ok (.value v) w) (h : anyX P md ops Q S m fuel (listed.setIfInBounds i true) (a.put oi.dst v) w)
  (hi : ops[i]? = some oi := by rfl) (hg : Region.wanted oi (yielded ops a.tmps) = true := by rfl)
  (hs : Region.noSelect ops = true := by kernel_rfl) (hf : Region.free md ops listed i = true := by kernel_rfl) (hr : (Region.ready md ops listed).contains i = true := by kernel_rfl) (hw : gated md ops m G i = true := by kernel_rfl) (hG : (G.all fun g => !(listed.getD g true)) = true := by kernel_rfl)
  (hQ : ∀ c a w, Q (.panic c) (a.put oi.dst v) w -> Q (.panic c) a w := by exact fun _ _ _ h => h) : anyX P md ops Q S m (fuel + 1) listed a w :=
  anyX_takeG G hi hs hf hr hw hG hQ (Or.inl ⟨hg, hv⟩) hS h
abbrev V3 := Int × Int × Int
def encV (u : V3) : List Value := [.int .i64 u.1, .int .i64 u.2.1, .int .i64 u.2.2]
theorem encV_len (u : V3) : (encV u).length = 3 := rfl
def EmitR (w : World) (v : Value) (E : List (List V3)) : Prop :=
 ∃ a cap, v = .slice a E.length cap /\ E.length <= cap /\ cap <= maxLen /\ (a = none -> cap = 0) /\ ∀ i, i < E.length -> ∃ b off u, a = some ⟨b, off, none⟩ /\ w.cell? ⟨b, off + i, none⟩ = some u /\ ReadsE encV 3 w u (E.getD i []).length (E.getD i [])
section
variable {w w' : World} {v : Value} {E : List (List V3)}
theorem EmitR.same (h : EmitR w v E) (hk : ∀ b o x, w.cell? ⟨b, o, none⟩ = some x -> w'.cell? ⟨b, o, none⟩ = some x) : EmitR w' v E := by
 obtain ⟨a, cap, h1, h2, h3, h4, h5⟩ := h
 refine ⟨a, cap, h1, h2, h3, h4, fun i hi => ?_⟩
 obtain ⟨b, off, u, e, hc, hr⟩ := h5 i hi
 exact ⟨b, off, u, e, hk _ _ _ hc, hr.same hk⟩
theorem EmitR.below (h : EmitR w v E) (hb : Below w.heap.size w w') : EmitR w' v E := h.same fun b o x hx => bel_m hb hx
theorem EmitR.form (h : EmitR w v E) : ∃ a cap, v = .slice a E.length cap /\ E.length <= cap /\ cap <= 9223372036854775807 := by
 obtain ⟨a, cap, h1, h2, h3, _⟩ := h
 exact ⟨a, cap, h1, h2, by unfold maxLen at h3; exact h3⟩
theorem EmitR.at_ {a : Option Addr} {n cap : Nat} (h : EmitR w (.slice a n cap) E) {i : Nat} (hi : i < E.length) : ∃ b off A m c, a = some ⟨b, off, none⟩ /\ m = (E.getD i []).length /\ w.cell? ⟨b, off + i, none⟩ = some (.slice A m c) /\ ReadsE encV 3 w (.slice A m c) m (E.getD i []) /\ m <= c /\ c <= 9223372036854775807 := by
 obtain ⟨a', cap', h1, h2, h3, h4, h5⟩ := h
 simp only [Value.slice.injEq] at h1
 obtain ⟨rfl, -, rfl⟩ := h1
 obtain ⟨b, off, u, e, hc, hr⟩ := h5 i hi
 obtain ⟨A, c, e2, q1, q2, _⟩ := hr.form
 subst e2
 exact ⟨b, off, A, _, c, e, rfl, hc, hr, q1, q2⟩
end
theorem fright_any {w : World} {NA OA : Option Addr} {nc oc n k q : Nat} {T : List (List Nat)} {E : List (List V3)} (h : NextR w (.slice NA n nc) T) (hl : T.length = n) (hT : RectN T k) (ho : EmitR w (.slice OA n oc) E) (hel : E.length = n) (hq : ∀ i, i < n -> (E.getD i []).length = q) (hn : n <= 1000) (hk : k <= 1000) :
  Calls Try.prog 39 #[.agg #[.slice NA n nc, .slice OA n oc]] w fun e w' => e = .returned (.bool true) /\ Below w.heap.size w w' := by
  have hpos : 0 < n := by have := hT.pos; omega
  obtain ⟨OA', c', e, hoc, hoc2⟩ := ho.form
  rw [hel] at hoc
  simp only [Value.slice.injEq] at e
  obtain ⟨rfl, -, rfl⟩ := e
  obtain ⟨W0, hW0⟩ : ∃ W0, w.alloc (.cells #[.slice NA n nc, .slice OA n oc] 73) = W0 := ⟨_, rfl⟩
  have hb0 : Below w.heap.size w W0 := by rw [<- hW0]; exact (Below.refl _ _).alloc (Nat.le_refl _) _
  have hx0 : Blk W0 w.heap.size 73 #[.slice NA n nc, .slice OA n oc] := by rw [<- hW0]; exact Blk.new _ _ _
  obtain ⟨nb, hnb⟩ : ∃ nb, nb = w.heap.size := ⟨_, rfl⟩
  rw [<- hnb] at hx0
  have HKS : Hid (∀ W : World, Below W0.heap.size W0 W -> (fun W : World => W.cell? ⟨nb, 0, none⟩ = some (.slice NA n nc) /\ W.cell? ⟨nb, 1, none⟩ = some (.slice OA n oc)) W) := Lib.hid (fun W hW => by
   have h0 := (Blk.below hx0 hW hx0.lt).cell 0
   have h1 := (Blk.below hx0 hW hx0.lt).cell 1
   exact ⟨by simpa using h0, by simpa using h1⟩)
  have HNR := Lib.hid (h.below hb0); have HO := Lib.hid (ho.below hb0); have HT := Lib.hid hT; have HL := Lib.hid hl; have HB0 := Lib.hid hb0; have HW0 := Lib.hid hW0; have HNB := Lib.hid hnb; have HX0 := Lib.hid hx0; have HEL := Lib.hid hel; have HQ := Lib.hid hq
  clear h ho hT hl hb0 hx0 hW0 hnb hel hq
  go_enter Try.func39, Try.ntmps39
  go_wp2_with fail
  rw [HW0.out, <- HNB.out]
  refine region_x 12 (fun W : World => W.cell? ⟨nb, 0, none⟩ = some (.slice NA n nc) /\ W.cell? ⟨nb, 1, none⟩ = some (.slice OA n oc)) (by kernel_rfl) ?_
  have hb : Below W0.heap.size W0 W0.drew := (Below.refl _ _).drew
  have hS := HKS.out _ hb
  generalize W0.drew = V0 at *
  refine tkg [4, 3, 2, 1] (i := 0) (v := ?_) hS ?_ ?_
  rotate_left
  ·rintro w' ⟨s0', s1'⟩
   go_simp
   try with_reducible rfl
  try simp only [Act.put, zq1, zq2, zq3, zq4, zq5, zq6]
  refine tkg [4, 3, 2] (i := 1) (v := ?_) hS ?_ ?_
  rotate_left
  ·rintro w' ⟨s0', s1'⟩
   go_simp
   try with_reducible rfl
  try simp only [Act.put, zq1, zq2, zq3, zq4, zq5, zq6]
  refine anyX_g (i := 2) (by kernel_rfl) (by decide) rfl (by rfl) ?_
  intro K hK
  try simp only [zq1, zq2, zq3]
  refine wp_enterE #[.agg #[.slice NA n nc]] Try.func47 (by kernel_rfl) (by kernel_rfl) ?_ (leads_any (HNR.out.below hb) HL.out HT.out hn hk) ?_
  ·go_simp
  rintro e V1 ⟨rfl, hbn⟩
  refine ⟨_, rfl, ?_⟩
  replace hb := hb.trans (hbn.mono hb.size)
  clear hbn
  have hS := HKS.out _ hb
  refine hK _ _ hS ?_
  clear hK
  try simp only [Act.put, zq1, zq2, zq3, zq4, zq5, zq6]
  refine tkg [4] (i := 3) (v := .bool false) hS ?_ ?_
  ·rintro w' ⟨s0', s1'⟩
   go_simp
   try with_reducible rfl
  try simp only [Act.put, zq1, zq2, zq3, zq4, zq5, zq6]
  refine tkx (i := 4) (v := .bool false) hS ?_ ?_
  ·rintro w' ⟨s0', s1'⟩
   go_simp
   try with_reducible rfl
  try simp only [Act.put, zq1, zq2, zq3, zq4, zq5, zq6]
  refine tkg [11, 7, 6] (i := 5) (v := ?_) hS ?_ ?_
  rotate_left
  ·rintro w' ⟨s0', s1'⟩
   go_simp
   try with_reducible rfl
  try simp only [Act.put, zq1, zq2, zq3, zq4, zq5, zq6]
  refine tkg [11, 7] (i := 6) (v := ?_) hS ?_ ?_
  rotate_left
  ·rintro w' ⟨s0', s1'⟩
   go_simp
   try with_reducible rfl
  try simp only [Act.put, zq1, zq2, zq3, zq4, zq5, zq6]
  refine tkg [11] (i := 7) (v := ?_) hS ?_ ?_
  rotate_left
  ·rintro w' ⟨s0', s1'⟩
   go_simp
   try with_reducible rfl
  try simp only [Act.put, zq1, zq2, zq3, zq4, zq5, zq6]
  refine tkg [11, 10, 9] (i := 8) (v := ?_) hS ?_ ?_
  rotate_left
  ·rintro w' ⟨s0', s1'⟩
   go_simp
   try with_reducible rfl
  try simp only [Act.put, zq1, zq2, zq3, zq4, zq5, zq6]
  refine tkg [11, 10] (i := 9) (v := ?_) hS ?_ ?_
  rotate_left
  ·rintro w' ⟨s0', s1'⟩
   go_simp
   try with_reducible rfl
  try simp only [Act.put, zq1, zq2, zq3, zq4, zq5, zq6]
  refine anyX_g (i := 10) (by kernel_rfl) (by decide) rfl (by rfl) ?_
  intro K hK
  try simp only [zq1, zq2, zq3]
  refine wp_enterE #[.agg #[.slice NA n nc]] Try.func48 (by kernel_rfl) (by kernel_rfl) ?_ (size_any NA n nc V1) ?_
  ·go_simp
  rintro e V2 ⟨rfl, hbn⟩
  refine ⟨_, rfl, ?_⟩
  replace hb := hb.trans (hbn.mono hb.size)
  clear hbn
  have hS := HKS.out _ hb
  refine hK _ _ hS ?_
  clear hK
  try simp only [Act.put, zq1, zq2, zq3, zq4, zq5, zq6]
  refine tkx (i := 11) (v := .bool false) hS ?_ ?_
  ·rintro w' ⟨s0', s1'⟩
   go_simp
   try with_reducible rfl
  try simp only [Act.put, zq1, zq2, zq3, zq4, zq5, zq6]
  refine anyX_last (by kernel_rfl) (by kernel_rfl) rfl rfl ?_
  try simp only [zq1, zq2, zq3]
  go_simp
  try apply_assumption
  have hxa := Blk.below HX0.out hb HX0.out.lt
  have b0 := hxa.cell 0; have b1 := hxa.cell 1
  simp only [List.getElem?_toArray, List.getElem?_cons_zero, List.getElem?_cons_succ] at b0 b1
  have HOW := Lib.hid (HO.out.below hb); have HBW := Lib.hid (HB0.out.trans (hb.mono HB0.out.size))
  have e0 := HQ.out 0 hpos
  obtain ⟨g0, o0, A0, m0, c0, hA0, hm0, d0, -, q1, q2⟩ := HOW.out.at_ (i := 0) (by rw [HEL.out]; exact hpos)
  subst hA0
  rw [Nat.add_zero] at d0
  have hm0q : m0 = q := by rw [hm0, e0]
  subst hm0q
  have n0 : (0 : Int) < (n : Int) := by omega
  have tn : decide (0 < n) = true := by simpa using hpos
  clear hS hxa e0 hm0 HKS
  go_wp2_with fail
  go_loopw [21] (fun vi wr => ∃ j : Nat, vi = .int .i64 (j : Int) /\ j <= n /\ wr = V2) (fun vi _ => n - (intOf vi).toNat)
  case atStart => exact ⟨0, rfl, Nat.zero_le _, by trivial⟩
  case round =>
   obtain ⟨j, rfl, hj, hw⟩ := hrel
   subst hw
   have j0 : (0 : Int) <= (j : Int) := Int.natCast_nonneg _
   by_cases hlt : j < n
   ·have j1 : (j : Int) < (n : Int) := by omega
    have tj : decide (j < n) = true := by simpa using hlt
    have e1 := HQ.out j hlt
    obtain ⟨g1, o1, A1, m1, c1, hA1, hm1, d1, -, q3, q4⟩ := HOW.out.at_ (i := j) (by rw [HEL.out]; exact hlt)
    simp only [Option.some.injEq, Addr.mk.injEq, and_true] at hA1
    obtain ⟨rfl, rfl⟩ := hA1
    have hm1q : m1 = m0 := by rw [hm1, e1]
    clear hm1 e1
    subst hm1q
    go_wp2_with fail
    exact ⟨⟨j + 1, by go_num, by omega, by trivial⟩, by simp [intOf]; omega⟩
   ·obtain rfl : j = n := by omega
    go_wp2_with fail
    go_ret
    exact ⟨rfl, HBW.out⟩
end Go.Proofs.Ytdcokkgdahbinaa
