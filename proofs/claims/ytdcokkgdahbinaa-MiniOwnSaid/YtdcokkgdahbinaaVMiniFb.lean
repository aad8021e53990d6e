/- forward.key: what a state says, as bytes. -/
import Derived.Test.YtdcokkgdahbinaaVMiniFa
import Derived.Laws.BytesArg
set_option linter.unusedVariables false
set_option linter.unusedSimpArgs false
set_option maxRecDepth 100000
set_option maxHeartbeats 8000000
namespace Go.Proofs.Ytdcokkgdahbinaa
open Go Go.RowKit Go.Proofs
def byZ (n : Int) (t : Nat) : Int := (n / 256 ^ t) % 256
def numZ (n : Int) (t : Nat) : List Int := (List.range t).map (byZ n)
def atV (u : V3) (c : Nat) : Int := if c = 0 then u.1 else if c = 1 then u.2.1 else u.2.2
def vecZ (u : V3) (c : Nat) : List Int := (List.range c).flatMap fun i => numZ (atV u i) 8
def keyZ (vs : List V3) : List Int := vs.flatMap fun u => vecZ u 3
def encB (b : Int) : List Value := [.int .u8 b]
theorem encB_len (b : Int) : (encB b).length = 1 := rfl
theorem numZ_succ (n : Int) (t : Nat) : numZ n (t + 1) = numZ n t ++ [byZ n t] := by unfold numZ; rw [List.range_succ, List.map_append]; rfl
theorem vecZ_succ (u : V3) (c : Nat) : vecZ u (c + 1) = vecZ u c ++ numZ (atV u c) 8 := by unfold vecZ; rw [List.range_succ, List.flatMap_append]; simp
theorem keyZ_take {vs : List V3} {i : Nat} (h : i < vs.length) : keyZ (vs.take (i + 1)) = keyZ (vs.take i) ++ vecZ (vs.getD i (0, 0, 0)) 3 := by
 unfold keyZ
 rw [List.take_add_one, List.getElem?_eq_getElem h, List.flatMap_append, List.getD_eq_getElem?_getD, List.getElem?_eq_getElem h]
 simp
theorem numZ_len (n : Int) (t : Nat) : (numZ n t).length = t := by simp [numZ]
theorem vecZ_len (u : V3) (c : Nat) : (vecZ u c).length = c * 8 := by
 induction c with
 | zero => rfl
 | succ c ih => rw [vecZ_succ, List.length_append, ih, numZ_len]; omega
theorem info_byte : (Try.prog.info? 5).map (fun i => (i.zero, i.size, i.bytes)) = some (some (.int .u8 0), 1, 1) := by kernel_rfl
theorem div_in {z : Int} (h1 : -9223372036854775808 <= z) (h2 : z <= 9223372036854775807) (t : Nat) : -9223372036854775808 <= z / 256 ^ t /\ z / 256 ^ t <= 9223372036854775807 := by
 have hp : (0 : Int) < 256 ^ t := Int.pow_pos (by decide)
 constructor
 ·rw [Int.le_ediv_iff_mul_le hp]
  have : (1 : Int) <= 256 ^ t := hp
  have h3 : -9223372036854775808 * (256 : Int) ^ t <= -9223372036854775808 * 1 := Int.mul_le_mul_of_nonpos_left (by decide) this
  omega
 ·rcases Int.lt_or_le z 0 with h | h
  ·have := Int.ediv_neg_of_neg_of_pos h hp
   omega
  ·have := Int.ediv_le_self (256 ^ t) h
   omega
theorem div_succ (z : Int) (t : Nat) : z / 256 ^ (t + 1) = z / 256 ^ t / 256 := by
 rw [Int.pow_succ, Int.ediv_ediv_of_nonneg (Int.le_of_lt (Int.pow_pos (by decide)))]
def mkB (c : Nat) : Array Value := madeCells #[.int .u8 0] (c * 1)
theorem mkB_any (c : Nat) (hc : c <= 1000000) (W : World) : (Instr.makeSlice 100 (.int .i64 0) (.int .i64 (c : Int))).run Try.prog W = .ok (.slice (some ⟨W.heap.size, 0, none⟩) 0 c) (W.alloc (.cells (mkB c) 5)) := by
 obtain ⟨i0, hi, hz0, hz1, hz2⟩ := info_parts info_byte
 have h := run_make (P := Try.prog) W 100 5 i0 _ Try.underlying100 hi hz0 .i64 .i64 0 c (Int.le_refl _) (by omega) (by rw [hz2]; omega) (by omega)
 rw [h, hz1]
 simp only [Int.toNat_natCast, Int.toNat_zero]
 rfl
theorem own_mkB (c : Nat) (hc : c <= 1000000) (w : World) : OwnE encB 5 1 (w.alloc (.cells (mkB c) 5)) w.heap.size (sl w.heap.size 0 c) 0 [] := by
 refine ⟨by simp, .inr ⟨w.heap.size, c, _, rfl, Nat.le_refl _, heap_alloc_new w _, Nat.zero_le _, by unfold maxLen; omega, by simp [mkB, size_madeCells], ?_⟩⟩
 simp
theorem index_vec (u : V3) (c : Nat) (hc : c < 3) (W : World) : (Instr.index 53 (.agg #[.int .i64 u.1, .int .i64 u.2.1, .int .i64 u.2.2]) (.int .i64 (c : Int))).run Try.prog W = .ok (.int .i64 (atV u c)) W := by
 rcases (show c = 0 \/ c = 1 \/ c = 2 by omega) with rfl | rfl | rfl
 ·kernel_rfl
 ·kernel_rfl
 ·kernel_rfl
theorem key_any {w : World} {NA OA : Option Addr} {nc oc n m : Nat} {E : List (List V3)} (ho : EmitR w (.slice OA m oc) E) (hel : E.length = m) {x : Nat} (hx : x < m) (hq : (E.getD x []).length <= 1000) (hin : ∀ u ∈ E.getD x [], ∀ c, -9223372036854775808 <= atV u c /\ atV u c <= 9223372036854775807) :
  Calls Try.prog 41 #[.agg #[.slice NA n nc, .slice OA m oc], .int .i64 (x : Int)] w fun e w' => e = .returned (.string (strOfNums (keyZ (E.getD x [])))) /\ Below w.heap.size w w' := by
  obtain ⟨OA', c', e, hoc, hoc2⟩ := ho.form
  rw [hel] at hoc
  simp only [Value.slice.injEq] at e
  obtain ⟨rfl, -, rfl⟩ := e
  obtain ⟨g0, o0, A, q, c, hA, hq0, d0, hr, q1, q2⟩ := ho.at_ (i := x) (by rw [hel]; exact hx)
  subst hA
  generalize E.getD x [] = vs at *
  rw [<- hq0] at hq
  have x0 : (0 : Int) <= (x : Int) := Int.natCast_nonneg _
  have x1 : (x : Int) < (m : Int) := by omega
  have tx : decide (x < m) = true := by simpa using hx
  obtain ⟨W0, hW0⟩ : ∃ W0, w.alloc (.cells #[.slice NA n nc, .slice (some ⟨g0, o0, none⟩) m oc] 73) = W0 := ⟨_, rfl⟩
  have hb0 : Below w.heap.size w W0 := by rw [<- hW0]; exact (Below.refl _ _).alloc (Nat.le_refl _) _
  have d1 : (w.alloc (.cells #[.slice NA n nc, .slice (some ⟨g0, o0, none⟩) m oc] 73)).cell? ⟨g0, o0 + x, none⟩ = some (.slice A q c) := by rw [hW0]; exact bel_m hb0 d0
  obtain ⟨c24, hc24⟩ : ∃ c24 : Nat, q * 24 = c24 := ⟨_, rfl⟩
  have hc9 : c24 <= 1000000 := by omega
  have hmk : ∀ W : World, (Instr.makeSlice 100 (.int .i64 0) (.int .i64 ((q : Int) * 3 * 8))).run Try.prog W = .ok (.slice (some ⟨W.heap.size, 0, none⟩) 0 c24) (W.alloc (.cells (mkB c24) 5)) := fun W => by
   rw [show (q : Int) * 3 * 8 = (c24 : Int) by omega]
   exact mkB_any c24 hc9 W
  obtain ⟨W1, hW1⟩ : ∃ W1, W0.alloc (.cells (mkB c24) 5) = W1 := ⟨_, rfl⟩
  have hb1 : Below W0.heap.size W0 W1 := by rw [<- hW1]; exact (Below.refl _ _).alloc (Nat.le_refl _) _
  have ho1 := own_mkB c24 hc9 W0
  rw [hW1] at ho1
  obtain ⟨B, hB⟩ : ∃ B, W0.heap.size = B := ⟨_, rfl⟩
  have hB2 : w.heap.size + 1 = B := by rw [<- hB, <- hW0]; simp
  have HBS2 := Lib.hid hB2; clear hB2
  rw [hB] at ho1 hb1
  have h00 : OwnE encB 5 1 W1 B (sl B 0 c24) (24 * 0) (keyZ (vs.take 0)) := ho1
  have hrb := hr.below hb0
  have hwB : w.heap.size <= B := by rw [<- hB]; exact hb0.size
  have hbl : ∀ b, w.cell? b = none \/ True := fun _ => .inr trivial
  have hrl : ReadsE encV 3 W0 (.slice A q c) q vs := hrb
  have HR := Lib.hid hrl; have HB0 := Lib.hid hb0; have HW0 := Lib.hid hW0; have HW1 := Lib.hid hW1; have HB1 := Lib.hid hb1; have H00 := Lib.hid h00; have HBS := Lib.hid hB; have HQ0 := Lib.hid hq0; have HIN := Lib.hid hin
  clear ho hel d0 hr hb0 hW0 hW1 hb1 h00 ho1 hrb hB hbl hrl hq0 hin hc24
  go_enter Try.func41, Try.ntmps41
  go_wp2_with fail
  rw [HW0.out, HBS2.out, HW1.out]
  clear d1 hmk tx x1 x0
  go_loopw [6, 23] (fun v6 vi wr => ∃ j : Nat, vi = .int .i64 (j : Int) /\ j <= q /\ Hid (OwnE encB 5 1 wr B v6 (24 * j) (keyZ (vs.take j))) /\ Hid (Below B W0 wr)) (fun _ vi _ => q - (intOf vi).toNat)
  case atStart => exact ⟨0, rfl, Nat.zero_le _, H00, HB1⟩
  case round =>
   clear H00
   obtain ⟨j, rfl, hj, HO, HB⟩ := hrel
   have j0 : (0 : Int) <= (j : Int) := Int.natCast_nonneg _
   by_cases hlt : j < q
   ·have j1 : (j : Int) < (q : Int) := by omega
    have tj : decide (j < q) = true := by simpa using hlt
    have til : j < vs.length := by rw [<- HQ0.out]; exact hlt
    obtain ⟨u, hu⟩ : ∃ u, vs.getD j (0, 0, 0) = u := ⟨_, rfl⟩
    have hus : vs[j]? = some u := by rw [<- hu, List.getD_eq_getElem?_getD, List.getElem?_eq_getElem til]; rfl
    have hum : u ∈ vs := List.mem_of_getElem? hus
    have hrg := HIN.out u hum
    have hkt := keyZ_take til
    rw [hu] at hkt
    obtain ⟨b, o, hA, hbl, hcl⟩ := (HR.out.below (by rw [HBS.out]; exact HB.out)).at encV_len (by decide) j u hus
    subst hA
    have s0 := hcl 0 _ rfl; have s1 := hcl 1 _ rfl; have s2 := hcl 2 _ rfl
    rw [Nat.add_zero] at s0
    have HRG := Lib.hid hrg; have HKT := Lib.hid hkt
    have hix := index_vec u
    clear hcl hus hum hu til hrg hkt
    obtain ⟨wo, hwo⟩ : ∃ wo, wo = wr := ⟨_, rfl⟩
    subst hwo
    go_wp2_with fail
    obtain ⟨W2, hW2⟩ : ∃ W2, wo.alloc (.cells #[.int .i64 u.1, .int .i64 u.2.1, .int .i64 u.2.2] 53) = W2 := ⟨_, rfl⟩
    have hb2 : Below wo.heap.size wo W2 := by rw [<- hW2]; exact (Below.refl _ _).alloc (Nat.le_refl _) _
    rw [hW2]
    clear hW2 s0 s1 s2
    have h20 : Hid (OwnE encB 5 1 W2 B u6 (24 * j + 8 * 0) (keyZ (vs.take j) ++ vecZ u 0)) := Lib.hid (by
     have := HO.out.below_top hb2
     rw [show vecZ u 0 = [] from rfl, List.append_nil]
     exact this)
    have HB2 := Lib.hid (HB.out.trans (hb2.mono (by have := HB.out.size; have := HBS.out; omega)))
    clear hb2
    go_loopw [6, 28] (fun v6 vi wr => ∃ cc : Nat, vi = .int .i64 (cc : Int) /\ cc <= 3 /\ Hid (OwnE encB 5 1 wr B v6 (24 * j + 8 * cc) (keyZ (vs.take j) ++ vecZ u cc)) /\ Hid (Below B W0 wr)) (fun _ vi _ => 3 - (intOf vi).toNat)
    case atStart => exact ⟨0, rfl, Nat.zero_le _, h20, HB2⟩
    case round =>
     clear h20 HB2 HO HB
     obtain ⟨cc, rfl, hcc, HO, HB⟩ := hrel
     have cc0 : (0 : Int) <= (cc : Int) := Int.natCast_nonneg _
     by_cases hl3 : cc < 3
     ·have cc1 : (cc : Int) < 3 := by omega
      have tc : decide (cc < 3) = true := by simpa using hl3
      have hix2 := hix cc hl3
      obtain ⟨hz1, hz2⟩ := HRG.out cc
      have hvs := vecZ_succ u cc
      obtain ⟨wi, hwi⟩ : ∃ wi, wi = wr := ⟨_, rfl⟩
      subst hwi
      generalize atV u cc = z at *
      have HVS := Lib.hid hvs
      obtain ⟨PP, hPP⟩ : ∃ PP, keyZ (vs.take j) ++ vecZ u cc = PP := ⟨_, rfl⟩
      have HPP := Lib.hid hPP
      rw [hPP] at HO
      clear hix hPP hvs
      go_wp2_with fail
      clear hix2
      have h30 : Hid (OwnE encB 5 1 wi B u6 (24 * j + 8 * cc + 0) (PP ++ numZ z 0)) := Lib.hid (by
       rw [show numZ z 0 = [] from rfl, List.append_nil]
       exact HO.out)
      go_loopw [6, 10, 31] (fun v6 v10 vi wr => ∃ t : Nat, vi = .int .i64 (t : Int) /\ t <= 8 /\ v10 = .int .i64 (z / 256 ^ t) /\ Hid (OwnE encB 5 1 wr B v6 (24 * j + 8 * cc + t) (PP ++ numZ z t)) /\ Hid (Below B W0 wr)) (fun _ _ vi _ => 8 - (intOf vi).toNat)
      case atStart => exact ⟨0, rfl, Nat.zero_le _, by simp, h30, HB⟩
      case round =>
       clear h30 HO HB
       obtain ⟨t, rfl, ht, rfl, HO, HB⟩ := hrel
       have t0 : (0 : Int) <= (t : Int) := Int.natCast_nonneg _
       by_cases hl8 : t < 8
       ·have t1 : (t : Int) < 8 := by omega
        have tt : decide (t < 8) = true := by simpa using hl8
        obtain ⟨v, hv⟩ : ∃ v, z / 256 ^ t = v := ⟨_, rfl⟩
        rw [hv]
        have HV := Lib.hid hv
        clear hv
        have hbs : B <= wr.heap.size := by have := HB.out.size; have := HBS.out; omega
        have hn9 : 24 * j + 8 * cc + t <= 1000000000 := by omega
        have hv1 : -9223372036854775808 <= v /\ v <= 9223372036854775807 := by rw [<- HV.out]; exact div_in hz1 hz2 t
        obtain ⟨hv1, hv2⟩ := hv1
        go_wp2_with (at_builtin; refine wpList_pushE (enc := encB) rfl (.tmp 33) (.tmp 36) 100 rfl 1 _ Try.underlying100 info_byte rfl (by omega) (by omega) B wr u6 (24 * j + 8 * cc + t) (PP ++ numZ z t) (v % 256) _ rfl rfl (by simp [encB, Value.oneCell']) (by rfl) HO.out wr.heap.size (by rfl) rfl hn9 hbs ?_; intro g9 cap9 w9 hp9; have HP := Lib.hid hp9; clear hp9)
        refine ⟨⟨t + 1, by go_num, by omega, by rw [div_succ, HV.out], Lib.hid ?_, Lib.hid (HP.out.below HB.out (Nat.le_refl _) hbs)⟩, by simp [intOf]; omega⟩
        rw [numZ_succ, show byZ z t = v % 256 by unfold byZ; rw [HV.out], <- List.append_assoc]
        exact HP.out.own
       ·obtain rfl : t = 8 := by omega
        go_wp2_with fail
        refine ⟨⟨cc + 1, by go_num, by omega, Lib.hid ?_, HB⟩, by simp [intOf]; omega⟩
        rw [HVS.out, <- List.append_assoc, HPP.out, show 24 * j + 8 * (cc + 1) = 24 * j + 8 * cc + 8 by omega]
        exact HO.out
     ·obtain rfl : cc = 3 := by omega
      go_wp2_with fail
      refine ⟨⟨j + 1, by go_num, by omega, Lib.hid ?_, HB⟩, by simp [intOf]; omega⟩
      rw [HKT.out, show 24 * (j + 1) = 24 * j + 8 * 3 by omega]
      exact HO.out
   ·obtain rfl : j = q := by omega
    have hconv : (convert 100 9 u6).run Try.prog wr = .ok (.string (strOfNums (keyZ vs))) wr := by
     have h := HO.out
     rw [List.take_of_length_le (Nat.le_of_eq HQ0.out.symm)] at h
     have hlen := h.len encB_len (by decide)
     rcases h.form encB_len (by decide) with ⟨e, e0⟩ | ⟨g, cap, e, _, _, _, _, hc⟩
     ·subst e
      have : keyZ vs = [] := List.eq_nil_of_length_eq_zero (by omega)
      rw [this]
      exact run_convert_bytes_nil wr 100 5 Try.underlying100 Try.underlying5 0 0 _ Try.underlying9
     ·subst e
      refine run_convert_bytes_arg wr 100 5 Try.underlying100 Try.underlying5 g 0 _ cap (keyZ vs) hlen (fun i hi => ?_) _ Try.underlying9
      have hi' : i < (keyZ vs).length := by omega
      have h2 := hc i _ (List.getElem?_eq_getElem hi') 0 _ rfl
      rw [Nat.mul_one, Nat.add_zero] at h2
      rw [h2]
      simp [List.getD, List.getElem?_eq_getElem hi']
    have HBF := Lib.hid (HB0.out.trans (HB.out.mono (by have := HBS.out; omega)))
    go_wp2_with fail
    go_ret
    exact ⟨rfl, HBF.out⟩
theorem byZ_in (z : Int) (t : Nat) : 0 <= byZ z t /\ byZ z t < 256 := by unfold byZ; omega
theorem keyZ_in {vs : List V3} : ∀ x ∈ keyZ vs, 0 <= x /\ x < 256 := by
 intro x hx
 unfold keyZ vecZ numZ at hx
 simp only [List.mem_flatMap, List.mem_map] at hx
 obtain ⟨_, _, _, _, t, _, rfl⟩ := hx
 exact byZ_in _ _
theorem bytes_inj : ∀ {a b : List Int}, (∀ x ∈ a, 0 <= x /\ x < 256) -> (∀ x ∈ b, 0 <= x /\ x < 256) -> (a.map fun n => UInt8.ofNat n.toNat) = (b.map fun n => UInt8.ofNat n.toNat) -> a = b
 | [], [], _, _, _ => rfl
 | [], _ :: _, _, _, h => by simp at h
 | _ :: _, [], _, _, h => by simp at h
 | x :: a, y :: b, ha, hb, h => by
   simp only [List.map_cons, List.cons.injEq] at h
   obtain ⟨h1, h2⟩ := h
   have hx := ha x (by simp); have hy := hb y (by simp)
   have h3 : x.toNat % 256 = y.toNat % 256 := by have := congrArg UInt8.toNat h1; simpa using this
   have h4 : x = y := by omega
   rw [h4, bytes_inj (fun q hq => ha q (by simp [hq])) (fun q hq => hb q (by simp [hq])) h2]
theorem strOfNums_inj {a b : List Int} (ha : ∀ x ∈ a, 0 <= x /\ x < 256) (hb : ∀ x ∈ b, 0 <= x /\ x < 256) (h : strOfNums a = strOfNums b) : a = b :=
 bytes_inj ha hb (congrArg (fun s : ByteArray => s.data.toList) h)
def In64 (z : Int) : Prop := -9223372036854775808 <= z /\ z <= 9223372036854775807
theorem numZ_inj {z y : Int} (hz : In64 z) (hy : In64 y) (h : numZ z 8 = numZ y 8) : z = y := by
 have hb : ∀ t, t < 8 -> byZ z t = byZ y t := fun t ht => by
  have := congrArg (fun l => l.getD t 0) h
  simpa [numZ, ht] using this
 unfold byZ at hb
 obtain ⟨z1, z2⟩ := hz
 obtain ⟨y1, y2⟩ := hy
 have h7 : z / 256 ^ 7 = y / 256 ^ 7 := by
  have := hb 7 (by omega)
  have e : (256 : Int) ^ 7 = 72057594037927936 := by decide
  rw [e] at this ⊢
  omega
 have down : ∀ t, t < 8 -> z / 256 ^ (t + 1) = y / 256 ^ (t + 1) -> z / 256 ^ t = y / 256 ^ t := fun t ht hh => by
  rw [div_succ, div_succ] at hh
  have := hb t ht
  omega
 have h0 := down 0 (by omega) (down 1 (by omega) (down 2 (by omega) (down 3 (by omega) (down 4 (by omega) (down 5 (by omega) (down 6 (by omega) h7))))))
 simpa using h0
theorem vecZ_inj {u v : V3} (hu : ∀ c, In64 (atV u c)) (hv : ∀ c, In64 (atV v c)) (h : vecZ u 3 = vecZ v 3) : u = v := by
 rw [vecZ_succ, vecZ_succ, vecZ_succ, vecZ_succ v, vecZ_succ v, vecZ_succ v] at h
 have h2 := List.append_inj' h (by rw [numZ_len, numZ_len])
 have h1 := List.append_inj' h2.1 (by rw [numZ_len, numZ_len])
 have h0 := List.append_inj' h1.1 (by rw [numZ_len, numZ_len])
 have e0 := numZ_inj (hu 0) (hv 0) h0.2
 have e1 := numZ_inj (hu 1) (hv 1) h1.2
 have e2 := numZ_inj (hu 2) (hv 2) h2.2
 obtain ⟨a, b, c⟩ := u
 obtain ⟨a', b', c'⟩ := v
 simp [atV] at e0 e1 e2
 simp [e0, e1, e2]
theorem keyZ_inj : ∀ {a b : List V3}, (∀ u ∈ a, ∀ c, In64 (atV u c)) -> (∀ u ∈ b, ∀ c, In64 (atV u c)) -> a.length = b.length -> keyZ a = keyZ b -> a = b
 | [], [], _, _, _, _ => rfl
 | [], _ :: _, _, _, h, _ => by simp at h
 | _ :: _, [], _, _, h, _ => by simp at h
 | x :: a, y :: b, ha, hb, hl, h => by
   have h' : vecZ x 3 ++ keyZ a = vecZ y 3 ++ keyZ b := h
   have h2 := List.append_inj h' (by rw [vecZ_len, vecZ_len])
   rw [vecZ_inj (ha x (by simp)) (hb y (by simp)) h2.1, keyZ_inj (fun u hu => ha u (by simp [hu])) (fun u hu => hb u (by simp [hu])) (by simpa using hl) h2.2]
theorem key_iff {a b : List V3} (ha : ∀ u ∈ a, ∀ c, In64 (atV u c)) (hb : ∀ u ∈ b, ∀ c, In64 (atV u c)) (hl : a.length = b.length) : strOfNums (keyZ a) = strOfNums (keyZ b) ↔ a = b :=
 ⟨fun h => keyZ_inj ha hb hl (strOfNums_inj keyZ_in keyZ_in h), fun h => by rw [h]⟩
end Go.Proofs.Ytdcokkgdahbinaa
