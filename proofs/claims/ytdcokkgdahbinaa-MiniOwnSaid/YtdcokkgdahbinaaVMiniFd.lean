/- told of a Fwd. -/
import Derived.Test.YtdcokkgdahbinaaVMiniFc
set_option linter.unusedVariables false
set_option linter.unusedSimpArgs false
set_option maxRecDepth 100000
set_option maxHeartbeats 8000000
namespace Go.Proofs.Ytdcokkgdahbinaa
open Go Go.RowKit Go.Proofs
theorem info_vrow : (Try.prog.info? 42).map (fun i => (i.zero, i.size, i.bytes)) = some (some (.slice none 0 0), 1, 24) := by kernel_rfl
def xssV (E : List (List V3)) (ss : List Nat) : List (Nat × List Value) := ss.map fun s => ((E.getD s []).length, (E.getD s []).flatMap encV)
theorem xssV_step {ss : List Nat} {j : Nat} (h : j < ss.length) (E : List (List V3)) : xssV E (ss.take (j + 1)) = xssV E (ss.take j) ++ [((E.getD (ss.getD j 0) []).length, (E.getD (ss.getD j 0) []).flatMap encV)] := by
 unfold xssV
 rw [List.take_add_one, List.getElem?_eq_getElem h, List.map_append, List.getD_eq_getElem?_getD (l := ss), List.getElem?_eq_getElem h]
 rfl
theorem toldV_any {w : World} {NA OA VA : Option Addr} {nc oc n m0 k kc : Nat} {E : List (List V3)} {ss : List Nat} (hv : ReadsI w (.slice VA k kc) k (intsN ss)) (hss : ∀ x ∈ ss, x < n) (hk : k <= 1000)
  (hsay : ∀ W, Below w.heap.size w W -> ∀ x, x < n -> Calls Try.prog 43 #[.agg #[.slice NA n nc, .slice OA m0 oc], .int .i64 (x : Int)] W fun e w' => ∃ u, e = .returned u /\ OwnE encV 53 3 w' W.heap.size u (E.getD x []).length (E.getD x []) /\ Below W.heap.size W w') :
  Calls Try.prog 42 #[.agg #[.slice NA n nc, .slice OA m0 oc], .func (.func 43) #[] #[], .slice VA k kc] w fun e w' => ∃ u, e = .returned u /\ OwnLL w' w.heap.size 42 53 3 u k (xssV E ss) /\ Below w.heap.size w w' := by
  have hsl : ss.length = k := by have := hv.1; simpa [intsN] using this
  obtain ⟨-, VA', c', e, hvc, hvc2, -, -⟩ := id hv
  simp only [Value.slice.injEq, true_and] at e
  obtain ⟨rfl, rfl⟩ := e
  unfold maxLen at hvc2
  obtain ⟨W0, hW0⟩ : ∃ W0, w.alloc (.cells #[.slice NA n nc, .slice OA m0 oc] 73) = W0 := ⟨_, rfl⟩
  have hb0 : Below w.heap.size w W0 := by rw [<- hW0]; exact (Below.refl _ _).alloc (Nat.le_refl _) _
  have hx0 : Blk W0 w.heap.size 73 #[.slice NA n nc, .slice OA m0 oc] := by rw [<- hW0]; exact Blk.new _ _ _
  obtain ⟨nb, hnb⟩ : ∃ nb, nb = w.heap.size := ⟨_, rfl⟩
  rw [<- hnb] at hx0
  have hnb2 : nb < W0.heap.size := hx0.lt
  have hws : w.heap.size <= W0.heap.size := hb0.size
  have hv0 := hv.below hb0
  have HB0 := Lib.hid hb0; have HX0 := Lib.hid hx0; have HV := Lib.hid hv0; have HSS := Lib.hid hss; have HSL := Lib.hid hsl; have HSAY := Lib.hid hsay; have HW0 := Lib.hid hW0; have HNB := Lib.hid hnb
  have H00 : Hid (OwnLL W0 W0.heap.size 42 53 3 (.slice none 0 0) 0 (xssV E (ss.take 0))) := Lib.hid (OwnLL.nil _ _ _ _ _)
  clear hb0 hx0 hv hv0 hss hsl hsay hnb hW0
  have k0 : (0 : Int) <= (k : Int) := Int.natCast_nonneg _
  go_enter Try.func42, Try.ntmps42
  go_wp2_with fail
  rw [HW0.out, <- HNB.out]
  go_loopw [7, 12] (fun vl vi wr => ∃ j : Nat, vi = .int .i64 (j : Int) /\ j <= k /\ Hid (OwnLL wr W0.heap.size 42 53 3 vl j (xssV E (ss.take j))) /\ Hid (Below W0.heap.size W0 wr)) (fun _ vi _ => k - (intOf vi).toNat)
  case atStart => exact ⟨0, rfl, Nat.zero_le _, H00, Lib.hid (Below.refl _ _)⟩
  case round =>
   clear H00
   obtain ⟨j, rfl, hj, HO, HB⟩ := hrel
   have j0 : (0 : Int) <= (j : Int) := Int.natCast_nonneg _
   obtain ⟨LA, lc, hvl, hlc, hlc2⟩ := HO.out.form'
   subst hvl
   by_cases hlt : j < k
   ·have j1 : (j : Int) < (k : Int) := by omega
    have tj : decide (j < k) = true := by simpa using hlt
    have til : j < ss.length := by rw [HSL.out]; exact hlt
    have hxm : ss.getD j 0 ∈ ss := by rw [List.getD_eq_getElem?_getD, List.getElem?_eq_getElem til]; exact List.getElem_mem _
    have hxn := HSS.out _ hxm
    have hst := xssV_step til E
    obtain ⟨b, o, hA, -, e2⟩ := (HV.out.below HB.out).at j hlt
    subst hA
    rw [intsN_at] at e2
    have hwr : Below w.heap.size w wr := HB0.out.trans (HB.out.mono HB0.out.size)
    have hsay := HSAY.out wr hwr _ hxn
    obtain ⟨x, hx⟩ : ∃ x, ss.getD j 0 = x := ⟨_, rfl⟩
    rw [hx] at hsay hst e2
    have HSY := Lib.hid hsay; have HST := Lib.hid hst
    have hxb := Blk.below HX0.out HB.out HX0.out.lt
    have b0 := hxb.cell 0; have b1 := hxb.cell 1
    simp only [List.getElem?_toArray, List.getElem?_cons_zero, List.getElem?_cons_succ] at b0 b1
    clear hwr hxb hsay hst hx hxm til
    go_wp2_with fail
    refine HSY.out.mono ?_
    rintro e w2 ⟨u, rfl, hu, hb2⟩
    obtain ⟨UA, uc, rfl, -, -, -⟩ := (hu.reads encV_len (by decide)).form
    obtain ⟨vals, hvals, hpush⟩ := (HO.out.below hb2).pushV
    have hap : Apart (.slice LA j lc) (.slice UA (E.getD x []).length uc) := by
     cases hv : (Value.slice LA j lc).ownBlock with
     | none => exact .inl hv
     | some z =>
       refine .inr (.inr (fun q => ?_))
       rw [hv] at q
       have h1 := (HO.out.lt z hv).2
       have h2 := (hu.lt z q.symm).1
       omega
    have HU := Lib.hid (hu.more (Nat.le_trans HB.out.size (Nat.le_refl _))); have HVA := Lib.hid hvals; have HPU := Lib.hid hpush; have HAP := Lib.hid hap
    have HB2 := Lib.hid (HB.out.trans (hb2.mono HB.out.size))
    have hbs : W0.heap.size <= w2.heap.size := HB2.out.size
    have hj9 : j <= 1000000000 := by omega
    clear hb2 HSY HO HB b0 b1 e2 hu hvals hpush hap
    generalize (E.getD x []).length = ul at *
    go_wp2_with (at_builtin; refine wpList_pushE (enc := fun u : Value => [u]) rfl (.tmp 16) (.tmp 21) 28 rfl 24 _ Try.underlying28 info_vrow rfl (by omega) (by omega) W0.heap.size w2 (.slice LA j lc) j vals (.slice UA ul uc) _ rfl rfl (by simp [Value.oneCell']) (by rfl) HVA.out w2.heap.size (by rfl) rfl hj9 hbs ?_; intro g9 cap9 w9 hp9; have HP := Lib.hid hp9; clear hp9)
    refine ⟨⟨j + 1, by go_num, by omega, Lib.hid ?_, Lib.hid ?_⟩, by simp [intOf]; omega⟩
    ·rw [HST.out]; exact HPU.out _ _ _ _ _ _ HP.out HU.out HAP.out
    ·exact HP.out.below HB2.out (Nat.le_refl _) hbs
   ·obtain rfl : j = k := by omega
    go_wp2_with fail
    go_ret
    refine ⟨_, rfl, ?_, HB0.out.trans (HB.out.mono HB0.out.size)⟩
    have h1 := HO.out
    rw [List.take_of_length_le (Nat.le_of_eq HSL.out)] at h1
    exact h1.more' hws
end Go.Proofs.Ytdcokkgdahbinaa
