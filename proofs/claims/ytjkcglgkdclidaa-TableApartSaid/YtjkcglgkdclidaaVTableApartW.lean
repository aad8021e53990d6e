/- TableApart: two tables have the same bytes just where they are the same. -/
import Derived.Test.YtjkcglgkdclidaaVTableTb
import Derived.Test.YtjkcglgkdclidaaVTableTa
import Derived.Test.YtjkcglgkdclidaaVTableTe
import Derived.Test.YtjkcglgkdclidaaVTableYq
set_option linter.unusedVariables false
set_option linter.unusedSimpArgs false
set_option maxRecDepth 100000
set_option maxHeartbeats 8000000
namespace Go.Proofs.Ytjkcglgkdclidaa
open Go Go.RowKit Go.Proofs
theorem anyX_mono {P : Program} {ops : Array Oper} {Q : Exit -> Act -> World -> Prop} {md : Region.Mode} {S S' : World -> Prop} {m : Nat} (h : ∀ w, S' w -> S w) : ∀ {fuel : Nat} {listed : Array Bool} {a : Act} {w : World}, anyX P md ops Q S' m fuel listed a w -> anyX P md ops Q S m fuel listed a w
 | 0, _, _, _, q => q
 | fuel + 1, _, _, _, q => ⟨q.1, fun i hi => wpOp_mono (fun a' w' h' => ⟨fun e => h _ (h'.1 e), anyX_mono h h'.2⟩) (q.2 i hi)⟩
theorem lawTab_shape (ns ms cs : List Int) (k n : Nat) : (lawTab ns ms cs k n).bn.length = k /\ (lawTab ns ms cs k n).fn.length = k /\ (lawTab ns ms cs k n).fe.length = k /\ ∀ i, i < k -> ((lawTab ns ms cs k n).fe.getD i []).length = 2 := by
 refine ⟨?_, ?_, ?_, fun i hi => ?_⟩
 ·show ((lawT ns k n).map intsN).length = k
  rw [List.length_map, lawT_len]
 ·show ((lawT ms k n).map intsN).length = k
  rw [List.length_map, lawT_len]
 ·show (lawEs (lawO ms k n)).length = k
  rw [lawEs_len, lawO_len]
 ·show ((lawEs (lawO ms k n)).getD i []).length = 2
  rw [lawEs_at (by rw [lawO_len]; exact hi)]
  rfl
theorem tableApart_walk (a0 : Int) (a1 : Int) (a2 : Option Addr) (len2 cap2 : Nat) (z2 : List Int) (a3 : Option Addr) (len3 cap3 : Nat) (z3 : List Int) (a4 : Option Addr) (len4 cap4 : Nat) (z4 : List Int) (a5 : Option Addr) (len5 cap5 : Nat) (z5 : List Int) (a6 : Int) (w : World) (w0 : (Lit.int .i64 a0).wf = true) (w1 : (Lit.int .i64 a1).wf = true) (w2 : IsRow .i64 w a2 len2 cap2 z2) (w3 : IsRow .i64 w a3 len3 cap3 z3) (w4 : IsRow .i64 w a4 len4 cap4 z4) (w5 : IsRow .i64 w a5 len5 cap5 z5) (w6 : (Lit.int .i64 a6).wf = true) :
  Calls Try.prog 10 #[.int .i64 a0, .int .i64 a1, .slice a2 len2 cap2, .slice a3 len3 cap3, .slice a4 len4 cap4, .slice a5 len5 cap5, .int .i64 a6] w fun e w' => e = .returned (.bool true) /\ Below w.heap.size w w' := by
  have hk := kOf_is a0; have hn := nOf_is a1; have hk9 := kOf_lt a0; have hn9 := nOf_lt a1
  obtain ⟨k, ek⟩ : ∃ k, kOf a0 = k := ⟨_, rfl⟩
  obtain ⟨n, en⟩ : ∃ n, nOf a1 = n := ⟨_, rfl⟩
  rw [ek] at hk hk9
  rw [en] at hn hn9
  clear ek en
  obtain ⟨k0, k9⟩ := hk9
  obtain ⟨n0, n9⟩ := hn9
  have HK := Lib.hid hk; have HN := Lib.hid hn
  have R2 := Lib.hid w2.readsI
  have R3 := Lib.hid w3.readsI
  have R4 := Lib.hid w4.readsI
  have R5 := Lib.hid w5.readsI
  clear hk hn w0 w1 w2 w3 w4 w5
  go_enter Try.func10, Try.ntmps10
  go_wp2_with fail
  refine (tknown_any _).mono ?_
  rintro e V1 ⟨rfl, hb⟩
  replace R2 := Lib.hid (R2.out.below hb)
  replace R3 := Lib.hid (R3.out.below hb)
  replace R4 := Lib.hid (R4.out.below hb)
  replace R5 := Lib.hid (R5.out.below hb)
  have HB := Lib.hid hb
  clear hb
  go_wp2_with fail
  refine (make_any R2.out R3.out R4.out a0 a1 HK.out HN.out).mono ?_
  rintro e V2 ⟨vc, vl, vbn, vbo, vfn, vfe, rfl, ht, hb⟩
  replace R2 := Lib.hid (R2.out.below hb)
  replace R3 := Lib.hid (R3.out.below hb)
  replace R4 := Lib.hid (R4.out.below hb)
  replace R5 := Lib.hid (R5.out.below hb)
  replace HB := Lib.hid (HB.out.trans (hb.mono HB.out.size))
  clear hb
  have hrtt := lawTab_right (ns := (z2.take len2)) (ms := (z3.take len3)) (cs := (z4.take len4)) k0 (by omega) n0 (by omega)
  have helt := lawTab_len (ns := (z2.take len2)) (ms := (z3.take len3)) (cs := (z4.take len4)) k0 k9 n0 n9
  obtain ⟨tt, htt⟩ : ∃ t, lawTab (z2.take len2) (z3.take len3) (z4.take len4) k n = t := ⟨_, rfl⟩
  rw [htt] at ht hrtt helt
  have hlens := hrtt.lens helt
  obtain ⟨A0t, k0t, rfl, le0t, lt0t, -⟩ := ht.c.form
  obtain ⟨A1t, k1t, rfl, le1t, lt1t, -⟩ := ht.l.form
  obtain ⟨A2t, k2t, ee, le2t, lt2t⟩ := ht.bn.form
  subst ee
  obtain ⟨A3t, k3t, rfl, le3t, lt3t, -⟩ := ht.bo.form
  obtain ⟨A4t, k4t, ee, le4t, lt4t⟩ := ht.fn.form
  subst ee
  obtain ⟨A5t, k5t, ee, le5t, lt5t⟩ := ht.fe.form
  subst ee
  obtain ⟨m0t, hm0t⟩ : ∃ m, tt.cuts.length = m := ⟨_, rfl⟩
  obtain ⟨m1t, hm1t⟩ : ∃ m, tt.letters.length = m := ⟨_, rfl⟩
  obtain ⟨m2t, hm2t⟩ : ∃ m, tt.bn.length = m := ⟨_, rfl⟩
  obtain ⟨m3t, hm3t⟩ : ∃ m, tt.bo.length = m := ⟨_, rfl⟩
  obtain ⟨m4t, hm4t⟩ : ∃ m, tt.fn.length = m := ⟨_, rfl⟩
  obtain ⟨m5t, hm5t⟩ : ∃ m, tt.fe.length = m := ⟨_, rfl⟩
  rw [hm0t, hm1t, hm2t, hm3t, hm4t, hm5t] at ht hlens
  rw [hm0t] at le0t
  rw [hm1t] at le1t
  rw [hm2t] at le2t
  rw [hm3t] at le3t
  rw [hm4t] at le4t
  rw [hm5t] at le5t
  rw [hm0t, hm1t, hm2t, hm3t, hm4t, hm5t]
  obtain ⟨q0t, q1t, q2t, q3t, q4t, q5t⟩ := hlens
  have HM0t := Lib.hid hm0t
  have HM1t := Lib.hid hm1t
  have HM2t := Lib.hid hm2t
  have HM3t := Lib.hid hm3t
  have HM4t := Lib.hid hm4t
  have HM5t := Lib.hid hm5t
  obtain ⟨bt, hbe⟩ : ∃ b, V2.heap.size = b := ⟨_, rfl⟩
  obtain ⟨V3, hW⟩ : ∃ W, V2.alloc (.cells #[.slice A0t m0t k0t, .slice A1t m1t k1t, .slice A2t m2t k2t, .slice A3t m3t k3t, .slice A4t m4t k4t, .slice A5t m5t k5t] 31) = W := ⟨_, rfl⟩
  have hb : Below V2.heap.size V2 V3 := by rw [<- hW]; exact (Below.refl _ _).alloc (Nat.le_refl _) _
  have Xt : Hid (Blk V3 bt 31 #[.slice A0t m0t k0t, .slice A1t m1t k1t, .slice A2t m2t k2t, .slice A3t m3t k3t, .slice A4t m4t k4t, .slice A5t m5t k5t]) := Lib.hid (by rw [<- hW]; exact Blk.newAt _ hbe _ _)
  replace R2 := Lib.hid (R2.out.below hb)
  replace R3 := Lib.hid (R3.out.below hb)
  replace R4 := Lib.hid (R4.out.below hb)
  replace R5 := Lib.hid (R5.out.below hb)
  have HTt := Lib.hid (ht.below hb)
  replace HB := Lib.hid (HB.out.trans (hb.mono HB.out.size))
  have HRt := Lib.hid hrtt; have HEt := Lib.hid helt; have TEt := Lib.hid htt; have HWt := Lib.hid hW; have HBEt := Lib.hid hbe
  clear ht hrtt helt htt hW hb hbe hm0t hm1t hm2t hm3t hm4t hm5t
  go_wp2_with fail
  rw [HWt.out]
  try simp only [HBEt.out]
  refine (make_any R2.out R3.out R4.out a0 a1 HK.out HN.out).mono ?_
  rintro e V4 ⟨vc, vl, vbn, vbo, vfn, vfe, rfl, ht, hb⟩
  replace R2 := Lib.hid (R2.out.below hb)
  replace R3 := Lib.hid (R3.out.below hb)
  replace R4 := Lib.hid (R4.out.below hb)
  replace R5 := Lib.hid (R5.out.below hb)
  replace HTt := Lib.hid (HTt.out.below hb)
  replace Xt := Lib.hid (Blk.below Xt.out hb Xt.out.lt)
  replace HB := Lib.hid (HB.out.trans (hb.mono HB.out.size))
  clear hb
  have HT4 := HTt
  have hlt4 := Xt.out.lt
  have hs4 := HB.out.size
  have hrtu := lawTab_right (ns := (z2.take len2)) (ms := (z3.take len3)) (cs := (z4.take len4)) k0 (by omega) n0 (by omega)
  have helu := lawTab_len (ns := (z2.take len2)) (ms := (z3.take len3)) (cs := (z4.take len4)) k0 k9 n0 n9
  obtain ⟨tu, htu⟩ : ∃ t, lawTab (z2.take len2) (z3.take len3) (z4.take len4) k n = t := ⟨_, rfl⟩
  rw [htu] at ht hrtu helu
  have hlens := hrtu.lens helu
  obtain ⟨A0u, k0u, rfl, le0u, lt0u, -⟩ := ht.c.form
  obtain ⟨A1u, k1u, rfl, le1u, lt1u, -⟩ := ht.l.form
  obtain ⟨A2u, k2u, ee, le2u, lt2u⟩ := ht.bn.form
  subst ee
  obtain ⟨A3u, k3u, rfl, le3u, lt3u, -⟩ := ht.bo.form
  obtain ⟨A4u, k4u, ee, le4u, lt4u⟩ := ht.fn.form
  subst ee
  obtain ⟨A5u, k5u, ee, le5u, lt5u⟩ := ht.fe.form
  subst ee
  obtain ⟨m0u, hm0u⟩ : ∃ m, tu.cuts.length = m := ⟨_, rfl⟩
  obtain ⟨m1u, hm1u⟩ : ∃ m, tu.letters.length = m := ⟨_, rfl⟩
  obtain ⟨m2u, hm2u⟩ : ∃ m, tu.bn.length = m := ⟨_, rfl⟩
  obtain ⟨m3u, hm3u⟩ : ∃ m, tu.bo.length = m := ⟨_, rfl⟩
  obtain ⟨m4u, hm4u⟩ : ∃ m, tu.fn.length = m := ⟨_, rfl⟩
  obtain ⟨m5u, hm5u⟩ : ∃ m, tu.fe.length = m := ⟨_, rfl⟩
  rw [hm0u, hm1u, hm2u, hm3u, hm4u, hm5u] at ht hlens
  rw [hm0u] at le0u
  rw [hm1u] at le1u
  rw [hm2u] at le2u
  rw [hm3u] at le3u
  rw [hm4u] at le4u
  rw [hm5u] at le5u
  rw [hm0u, hm1u, hm2u, hm3u, hm4u, hm5u]
  obtain ⟨q0u, q1u, q2u, q3u, q4u, q5u⟩ := hlens
  have HM0u := Lib.hid hm0u
  have HM1u := Lib.hid hm1u
  have HM2u := Lib.hid hm2u
  have HM3u := Lib.hid hm3u
  have HM4u := Lib.hid hm4u
  have HM5u := Lib.hid hm5u
  obtain ⟨bu, hbe⟩ : ∃ b, V4.heap.size = b := ⟨_, rfl⟩
  obtain ⟨V5, hW⟩ : ∃ W, V4.alloc (.cells #[.slice A0u m0u k0u, .slice A1u m1u k1u, .slice A2u m2u k2u, .slice A3u m3u k3u, .slice A4u m4u k4u, .slice A5u m5u k5u] 31) = W := ⟨_, rfl⟩
  have hb : Below V4.heap.size V4 V5 := by rw [<- hW]; exact (Below.refl _ _).alloc (Nat.le_refl _) _
  have Xu : Hid (Blk V5 bu 31 #[.slice A0u m0u k0u, .slice A1u m1u k1u, .slice A2u m2u k2u, .slice A3u m3u k3u, .slice A4u m4u k4u, .slice A5u m5u k5u]) := Lib.hid (by rw [<- hW]; exact Blk.newAt _ hbe _ _)
  replace R2 := Lib.hid (R2.out.below hb)
  replace R3 := Lib.hid (R3.out.below hb)
  replace R4 := Lib.hid (R4.out.below hb)
  replace R5 := Lib.hid (R5.out.below hb)
  replace HTt := Lib.hid (HTt.out.below hb)
  replace Xt := Lib.hid (Blk.below Xt.out hb Xt.out.lt)
  have HTu := Lib.hid (ht.below hb)
  replace HB := Lib.hid (HB.out.trans (hb.mono HB.out.size))
  have HRu := Lib.hid hrtu; have HEu := Lib.hid helu; have TEu := Lib.hid htu; have HWu := Lib.hid hW; have HBEu := Lib.hid hbe
  have HB4 := Lib.hid hb
  clear ht hrtu helu htu hW hb hbe hm0u hm1u hm2u hm3u hm4u hm5u
  go_wp2_with fail
  rw [HWu.out]
  try simp only [HBEu.out]
  refine (twithin2_any a6 3 (by decide) (by decide) V5).mono ?_
  rintro e V6 ⟨rfl, rfl⟩
  rcases (show a6 % 3 = 0 \/ a6 % 3 = 1 \/ a6 % 3 = 2 by omega) with h | h | h
  ·rw [h]
   clear h
   go_wp2_with fail
   refine (make_fr R5.out R3.out R4.out a0 a1 HK.out HN.out).mono ?_
   rintro e V7 ⟨vc, vl, vbn, vbo, vfn, vfe, rfl, ht, hfr, hb⟩
   replace R2 := Lib.hid (R2.out.below hb)
   replace R3 := Lib.hid (R3.out.below hb)
   replace R4 := Lib.hid (R4.out.below hb)
   replace R5 := Lib.hid (R5.out.below hb)
   replace HTt := Lib.hid (HTt.out.below hb)
   replace Xt := Lib.hid (Blk.below Xt.out hb Xt.out.lt)
   replace HB := Lib.hid (HB.out.trans (hb.mono HB.out.size))
   have HB5 := Lib.hid (HB4.out.trans (hb.mono HB4.out.size))
   have Xu7 := Lib.hid (Blk.below Xu.out hb Xu.out.lt)
   have hu5 := Xu.out.lt
   clear hb
   have hrtx := lawTab_right (ns := (z5.take len5)) (ms := (z3.take len3)) (cs := (z4.take len4)) k0 (by omega) n0 (by omega)
   have helx := lawTab_len (ns := (z5.take len5)) (ms := (z3.take len3)) (cs := (z4.take len4)) k0 k9 n0 n9
   obtain ⟨tx, htx⟩ : ∃ t, lawTab (z5.take len5) (z3.take len3) (z4.take len4) k n = t := ⟨_, rfl⟩
   rw [htx] at ht hfr hrtx helx
   have hlens := hrtx.lens helx
   obtain ⟨A0x, k0x, rfl, le0x, lt0x, -⟩ := ht.c.form
   obtain ⟨A1x, k1x, rfl, le1x, lt1x, -⟩ := ht.l.form
   obtain ⟨A2x, k2x, ee, le2x, lt2x⟩ := ht.bn.form
   subst ee
   obtain ⟨A3x, k3x, rfl, le3x, lt3x, -⟩ := ht.bo.form
   obtain ⟨A4x, k4x, ee, le4x, lt4x⟩ := ht.fn.form
   subst ee
   obtain ⟨A5x, k5x, ee, le5x, lt5x⟩ := ht.fe.form
   subst ee
   obtain ⟨m0x, hm0x⟩ : ∃ m, tx.cuts.length = m := ⟨_, rfl⟩
   obtain ⟨m1x, hm1x⟩ : ∃ m, tx.letters.length = m := ⟨_, rfl⟩
   obtain ⟨m2x, hm2x⟩ : ∃ m, tx.bn.length = m := ⟨_, rfl⟩
   obtain ⟨m3x, hm3x⟩ : ∃ m, tx.bo.length = m := ⟨_, rfl⟩
   obtain ⟨m4x, hm4x⟩ : ∃ m, tx.fn.length = m := ⟨_, rfl⟩
   obtain ⟨m5x, hm5x⟩ : ∃ m, tx.fe.length = m := ⟨_, rfl⟩
   rw [hm0x, hm1x, hm2x, hm3x, hm4x, hm5x] at ht hfr hlens
   rw [hm0x] at le0x
   rw [hm1x] at le1x
   rw [hm2x] at le2x
   rw [hm3x] at le3x
   rw [hm4x] at le4x
   rw [hm5x] at le5x
   rw [hm0x, hm1x, hm2x, hm3x, hm4x, hm5x]
   obtain ⟨q0x, q1x, q2x, q3x, q4x, q5x⟩ := hlens
   have HM0x := Lib.hid hm0x
   have HM1x := Lib.hid hm1x
   have HM2x := Lib.hid hm2x
   have HM3x := Lib.hid hm3x
   have HM4x := Lib.hid hm4x
   have HM5x := Lib.hid hm5x
   clear R2 R3 R4 R5
   obtain ⟨V8, hV8⟩ : ∃ W, ((((((V7.setCell ⟨bu, 0, none⟩ (.slice A0x m0x k0x)).setCell ⟨bu, 1, none⟩ (.slice A1x m1x k1x)).setCell ⟨bu, 2, none⟩ (.slice A2x m2x k2x)).setCell ⟨bu, 3, none⟩ (.slice A3x m3x k3x)).setCell ⟨bu, 4, none⟩ (.slice A4x m4x k4x)).setCell ⟨bu, 5, none⟩ (.slice A5x m5x k5x)) = W := ⟨_, rfl⟩
   have Xx : Hid (Blk V8 bu 31 #[.slice A0x m0x k0x, .slice A1x m1x k1x, .slice A2x m2x k2x, .slice A3x m3x k3x, .slice A4x m4x k4x, .slice A5x m5x k5x]) := Lib.hid (by rw [<- hV8]; have := ((((((Xu7.out.set_ 0 (.slice A0x m0x k0x)).set_ 1 (.slice A1x m1x k1x)).set_ 2 (.slice A2x m2x k2x)).set_ 3 (.slice A3x m3x k3x)).set_ 4 (.slice A4x m4x k4x)).set_ 5 (.slice A5x m5x k5x)); simpa using this)
   have hne : bt ≠ bu := by have := HBEu.out; omega
   replace Xt : Hid (Blk V8 bt 31 #[.slice A0t m0t k0t, .slice A1t m1t k1t, .slice A2t m2t k2t, .slice A3t m3t k3t, .slice A4t m4t k4t, .slice A5t m5t k5t]) := Lib.hid (by rw [<- hV8]; exact (Blk.far (Blk.far (Blk.far (Blk.far (Blk.far (Blk.far Xt.out (p := ⟨bu, 0, none⟩) hne (.slice A0x m0x k0x)) (p := ⟨bu, 1, none⟩) hne (.slice A1x m1x k1x)) (p := ⟨bu, 2, none⟩) hne (.slice A2x m2x k2x)) (p := ⟨bu, 3, none⟩) hne (.slice A3x m3x k3x)) (p := ⟨bu, 4, none⟩) hne (.slice A4x m4x k4x)) (p := ⟨bu, 5, none⟩) hne (.slice A5x m5x k5x)))
   have hf6 : Fr (fun q => q = bu) V7 V8 := by rw [<- hV8]; exact (((((((Fr.refl (fun q => q = bu) V7).set_ (p := ⟨bu, 0, none⟩) (.inl rfl) (.slice A0x m0x k0x)).set_ (p := ⟨bu, 1, none⟩) (.inl rfl) (.slice A1x m1x k1x)).set_ (p := ⟨bu, 2, none⟩) (.inl rfl) (.slice A2x m2x k2x)).set_ (p := ⟨bu, 3, none⟩) (.inl rfl) (.slice A3x m3x k3x)).set_ (p := ⟨bu, 4, none⟩) (.inl rfl) (.slice A4x m4x k4x)).set_ (p := ⟨bu, 5, none⟩) (.inl rfl) (.slice A5x m5x k5x))
   have HTx := Lib.hid (hfr V8 (hf6.mono (fun k _ e => by have e' : k = bu := e; show k < _; omega)))
   have HB7 := HB
   replace HB := Lib.hid (HB.out.trans (hf6.below (B := w.heap.size) HB.out.size (fun k hk e => by have := HBEu.out; have e' : k = bu := e; omega)))
   replace HTt := Lib.hid (HT4.out.below (HB5.out.trans (hf6.below (B := V4.heap.size) HB5.out.size (fun k hk e => by have := HBEu.out; have e' : k = bu := e; omega))))
   have c0 := Xu7.out.cell 0; have f0 := Xu7.out.frozen 0
   have c1 := Xu7.out.cell 1; have f1 := Xu7.out.frozen 1
   have c2 := Xu7.out.cell 2; have f2 := Xu7.out.frozen 2
   have c3 := Xu7.out.cell 3; have f3 := Xu7.out.frozen 3
   have c4 := Xu7.out.cell 4; have f4 := Xu7.out.frozen 4
   have c5 := Xu7.out.cell 5; have f5 := Xu7.out.frozen 5
   simp only [List.getElem?_toArray, List.getElem?_cons_zero, List.getElem?_cons_succ] at c0 c1 c2 c3 c4 c5
   have HRx := Lib.hid hrtx; have HEx := Lib.hid helx; have TEx := Lib.hid htx; have HV8 := Lib.hid hV8
   have SHx := lawTab_shape (z5.take len5) (z3.take len3) (z4.take len4) k n
   rw [TEx.out] at SHx
   have SHt := lawTab_shape (z2.take len2) (z3.take len3) (z4.take len4) k n
   rw [TEt.out] at SHt
   obtain ⟨rr, hrr⟩ : ∃ r, ((strOfNums (saveT tt)).toList == (strOfNums (saveT tx)).toList) = r := ⟨_, rfl⟩
   have HIFF : Hid (rr = true ↔ tt = tx) := Lib.hid (by rw [<- hrr, strL_inj (saveT_byte tt) (saveT_byte tx)]; exact ⟨fun e => saveT_inj HRt.out HRx.out e, fun e => by rw [e]⟩)
   have HRR := Lib.hid hrr
   clear hf6 HB7 hfr ht hrtx helx htx hV8 hne hrr hlt4 hs4 hu5 HT4 HB4 HB5 Xu7 hm0x hm1x hm2x hm3x hm4x hm5x
   go_wp2_with fail
   clear c0 c1 c2 c3 c4 c5 f0 f1 f2 f3 f4 f5
   rw [HV8.out]
   refine region_x 11 (fun W : World => ((W.cell? ⟨bt, 0, none⟩ = some (.slice A0t m0t k0t) /\ W.cell? ⟨bt, 1, none⟩ = some (.slice A1t m1t k1t) /\ W.cell? ⟨bt, 2, none⟩ = some (.slice A2t m2t k2t) /\ W.cell? ⟨bt, 3, none⟩ = some (.slice A3t m3t k3t) /\ W.cell? ⟨bt, 4, none⟩ = some (.slice A4t m4t k4t) /\ W.cell? ⟨bt, 5, none⟩ = some (.slice A5t m5t k5t)) /\ (W.cell? ⟨bu, 0, none⟩ = some (.slice A0x m0x k0x) /\ W.cell? ⟨bu, 1, none⟩ = some (.slice A1x m1x k1x) /\ W.cell? ⟨bu, 2, none⟩ = some (.slice A2x m2x k2x) /\ W.cell? ⟨bu, 3, none⟩ = some (.slice A3x m3x k3x) /\ W.cell? ⟨bu, 4, none⟩ = some (.slice A4x m4x k4x) /\ W.cell? ⟨bu, 5, none⟩ = some (.slice A5x m5x k5x)))) (by kernel_rfl) ?_
   have hb : Below V8.heap.size V8 V8.drew := (Below.refl _ _).drew
   replace HTt := Lib.hid (HTt.out.below hb)
   replace Xt := Lib.hid (Blk.below Xt.out hb Xt.out.lt)
   replace HTx := Lib.hid (HTx.out.below hb)
   replace Xx := Lib.hid (Blk.below Xx.out hb Xx.out.lt)
   replace HB := Lib.hid (HB.out.trans (hb.mono HB.out.size))
   clear hb
   generalize V8.drew = V9 at *
   have hS : (fun W : World => ((W.cell? ⟨bt, 0, none⟩ = some (.slice A0t m0t k0t) /\ W.cell? ⟨bt, 1, none⟩ = some (.slice A1t m1t k1t) /\ W.cell? ⟨bt, 2, none⟩ = some (.slice A2t m2t k2t) /\ W.cell? ⟨bt, 3, none⟩ = some (.slice A3t m3t k3t) /\ W.cell? ⟨bt, 4, none⟩ = some (.slice A4t m4t k4t) /\ W.cell? ⟨bt, 5, none⟩ = some (.slice A5t m5t k5t)) /\ (W.cell? ⟨bu, 0, none⟩ = some (.slice A0x m0x k0x) /\ W.cell? ⟨bu, 1, none⟩ = some (.slice A1x m1x k1x) /\ W.cell? ⟨bu, 2, none⟩ = some (.slice A2x m2x k2x) /\ W.cell? ⟨bu, 3, none⟩ = some (.slice A3x m3x k3x) /\ W.cell? ⟨bu, 4, none⟩ = some (.slice A4x m4x k4x) /\ W.cell? ⟨bu, 5, none⟩ = some (.slice A5x m5x k5x)))) V9 := ⟨⟨Xt.out.cell 0, Xt.out.cell 1, Xt.out.cell 2, Xt.out.cell 3, Xt.out.cell 4, Xt.out.cell 5⟩, ⟨Xx.out.cell 0, Xx.out.cell 1, Xx.out.cell 2, Xx.out.cell 3, Xx.out.cell 4, Xx.out.cell 5⟩⟩
   refine tkx (i := 0) (v := ?_) hS ?_ ?_
   rotate_left
   ·rintro w' ⟨⟨a0', a1', a2', a3', a4', a5'⟩, ⟨b0', b1', b2', b3', b4', b5'⟩⟩
    go_simp
    try with_reducible rfl
   try simp only [Act.put, zq1, zq2, zq3, zq4, zq5, zq6]
   refine tkx (i := 3) (v := ?_) hS ?_ ?_
   rotate_left
   ·rintro w' ⟨⟨a0', a1', a2', a3', a4', a5'⟩, ⟨b0', b1', b2', b3', b4', b5'⟩⟩
    go_simp
    try with_reducible rfl
   try simp only [Act.put, zq1, zq2, zq3, zq4, zq5, zq6]
   refine tkx (i := 7) (v := ?_) hS ?_ ?_
   rotate_left
   ·rintro w' ⟨⟨a0', a1', a2', a3', a4', a5'⟩, ⟨b0', b1', b2', b3', b4', b5'⟩⟩
    go_simp
    try with_reducible rfl
   try simp only [Act.put, zq1, zq2, zq3, zq4, zq5, zq6]
   refine tkx (i := 8) (v := ?_) hS ?_ ?_
   rotate_left
   ·rintro w' ⟨⟨a0', a1', a2', a3', a4', a5'⟩, ⟨b0', b1', b2', b3', b4', b5'⟩⟩
    go_simp
    try with_reducible rfl
   try simp only [Act.put, zq1, zq2, zq3, zq4, zq5, zq6]
   refine anyX_g (i := 1) (by kernel_rfl) (by decide) rfl (by rfl) ?_
   intro K hK
   try simp only [zq1, zq2, zq3]
   refine wp_enterE #[.agg #[.slice A0t m0t k0t, .slice A1t m1t k1t, .slice A2t m2t k2t, .slice A3t m3t k3t, .slice A4t m4t k4t, .slice A5t m5t k5t]] Try.func15 (by kernel_rfl) (by kernel_rfl) ?_ (tsave_any HTt.out (fun _ => (Nat.le_trans HEt.out (by decide)))) ?_
   ·go_simp
   rintro e V10 ⟨u9, rfl, ho9, -, hb⟩
   replace HTt := Lib.hid (HTt.out.below hb)
   replace Xt := Lib.hid (Blk.below Xt.out hb Xt.out.lt)
   replace HTx := Lib.hid (HTx.out.below hb)
   replace Xx := Lib.hid (Blk.below Xx.out hb Xx.out.lt)
   replace HB := Lib.hid (HB.out.trans (hb.mono HB.out.size))
   clear hb
   have HU9 := Lib.hid (ho9 HRt.out)
   clear ho9 hS
   have hS : (fun W : World => ((W.cell? ⟨bt, 0, none⟩ = some (.slice A0t m0t k0t) /\ W.cell? ⟨bt, 1, none⟩ = some (.slice A1t m1t k1t) /\ W.cell? ⟨bt, 2, none⟩ = some (.slice A2t m2t k2t) /\ W.cell? ⟨bt, 3, none⟩ = some (.slice A3t m3t k3t) /\ W.cell? ⟨bt, 4, none⟩ = some (.slice A4t m4t k4t) /\ W.cell? ⟨bt, 5, none⟩ = some (.slice A5t m5t k5t)) /\ (W.cell? ⟨bu, 0, none⟩ = some (.slice A0x m0x k0x) /\ W.cell? ⟨bu, 1, none⟩ = some (.slice A1x m1x k1x) /\ W.cell? ⟨bu, 2, none⟩ = some (.slice A2x m2x k2x) /\ W.cell? ⟨bu, 3, none⟩ = some (.slice A3x m3x k3x) /\ W.cell? ⟨bu, 4, none⟩ = some (.slice A4x m4x k4x) /\ W.cell? ⟨bu, 5, none⟩ = some (.slice A5x m5x k5x)))) V10 := ⟨⟨Xt.out.cell 0, Xt.out.cell 1, Xt.out.cell 2, Xt.out.cell 3, Xt.out.cell 4, Xt.out.cell 5⟩, ⟨Xx.out.cell 0, Xx.out.cell 1, Xx.out.cell 2, Xx.out.cell 3, Xx.out.cell 4, Xx.out.cell 5⟩⟩
   refine ⟨_, rfl, ?_⟩
   refine hK _ _ hS ?_
   clear hK
   try simp only [Act.put, zq1, zq2, zq3, zq4, zq5, zq6]
   clear hS
   refine anyX_mono (S' := (fun W : World => (((W.cell? ⟨bt, 0, none⟩ = some (.slice A0t m0t k0t) /\ W.cell? ⟨bt, 1, none⟩ = some (.slice A1t m1t k1t) /\ W.cell? ⟨bt, 2, none⟩ = some (.slice A2t m2t k2t) /\ W.cell? ⟨bt, 3, none⟩ = some (.slice A3t m3t k3t) /\ W.cell? ⟨bt, 4, none⟩ = some (.slice A4t m4t k4t) /\ W.cell? ⟨bt, 5, none⟩ = some (.slice A5t m5t k5t)) /\ (W.cell? ⟨bu, 0, none⟩ = some (.slice A0x m0x k0x) /\ W.cell? ⟨bu, 1, none⟩ = some (.slice A1x m1x k1x) /\ W.cell? ⟨bu, 2, none⟩ = some (.slice A2x m2x k2x) /\ W.cell? ⟨bu, 3, none⟩ = some (.slice A3x m3x k3x) /\ W.cell? ⟨bu, 4, none⟩ = some (.slice A4x m4x k4x) /\ W.cell? ⟨bu, 5, none⟩ = some (.slice A5x m5x k5x))) /\ (convert 34 9 u9).run Try.prog W = .ok (.string (strOfNums (saveT tt))) W))) (fun _ h => h.1) ?_
   have hS : (fun W : World => (((W.cell? ⟨bt, 0, none⟩ = some (.slice A0t m0t k0t) /\ W.cell? ⟨bt, 1, none⟩ = some (.slice A1t m1t k1t) /\ W.cell? ⟨bt, 2, none⟩ = some (.slice A2t m2t k2t) /\ W.cell? ⟨bt, 3, none⟩ = some (.slice A3t m3t k3t) /\ W.cell? ⟨bt, 4, none⟩ = some (.slice A4t m4t k4t) /\ W.cell? ⟨bt, 5, none⟩ = some (.slice A5t m5t k5t)) /\ (W.cell? ⟨bu, 0, none⟩ = some (.slice A0x m0x k0x) /\ W.cell? ⟨bu, 1, none⟩ = some (.slice A1x m1x k1x) /\ W.cell? ⟨bu, 2, none⟩ = some (.slice A2x m2x k2x) /\ W.cell? ⟨bu, 3, none⟩ = some (.slice A3x m3x k3x) /\ W.cell? ⟨bu, 4, none⟩ = some (.slice A4x m4x k4x) /\ W.cell? ⟨bu, 5, none⟩ = some (.slice A5x m5x k5x))) /\ (convert 34 9 u9).run Try.prog W = .ok (.string (strOfNums (saveT tt))) W)) V10 := ⟨⟨⟨Xt.out.cell 0, Xt.out.cell 1, Xt.out.cell 2, Xt.out.cell 3, Xt.out.cell 4, Xt.out.cell 5⟩, ⟨Xx.out.cell 0, Xx.out.cell 1, Xx.out.cell 2, Xx.out.cell 3, Xx.out.cell 4, Xx.out.cell 5⟩⟩, run_convB HU9.out⟩
   refine tkx (i := 2) (v := .string (strOfNums (saveT tt))) hS ?_ ?_
   ·rintro w' ⟨-, cv'⟩
    try simp only [zq1, zq2, zq3]
    unfold execOp
    simp only [Sem.run_bind, Sem.run_pure, Result.andThen_ok]
    exact (by simp only [Act.eval, zq1, zq2, zq3]; go_simp)
   try simp only [Act.put, zq1, zq2, zq3, zq4, zq5, zq6]
   refine anyX_g (i := 4) (by kernel_rfl) (by decide) rfl (by rfl) ?_
   intro K hK
   try simp only [zq1, zq2, zq3]
   refine wp_enterE #[.agg #[.slice A0x m0x k0x, .slice A1x m1x k1x, .slice A2x m2x k2x, .slice A3x m3x k3x, .slice A4x m4x k4x, .slice A5x m5x k5x]] Try.func15 (by kernel_rfl) (by kernel_rfl) ?_ (tsave_any HTx.out (fun _ => (Nat.le_trans HEx.out (by decide)))) ?_
   ·go_simp
   rintro e V11 ⟨y9, rfl, ho9, -, hb⟩
   replace HTt := Lib.hid (HTt.out.below hb)
   replace Xt := Lib.hid (Blk.below Xt.out hb Xt.out.lt)
   replace HTx := Lib.hid (HTx.out.below hb)
   replace Xx := Lib.hid (Blk.below Xx.out hb Xx.out.lt)
   replace HU9 := Lib.hid (HU9.out.below hb)
   replace HB := Lib.hid (HB.out.trans (hb.mono HB.out.size))
   clear hb
   have HY9 := Lib.hid (ho9 HRx.out)
   clear ho9 hS
   have hS : (fun W : World => (((W.cell? ⟨bt, 0, none⟩ = some (.slice A0t m0t k0t) /\ W.cell? ⟨bt, 1, none⟩ = some (.slice A1t m1t k1t) /\ W.cell? ⟨bt, 2, none⟩ = some (.slice A2t m2t k2t) /\ W.cell? ⟨bt, 3, none⟩ = some (.slice A3t m3t k3t) /\ W.cell? ⟨bt, 4, none⟩ = some (.slice A4t m4t k4t) /\ W.cell? ⟨bt, 5, none⟩ = some (.slice A5t m5t k5t)) /\ (W.cell? ⟨bu, 0, none⟩ = some (.slice A0x m0x k0x) /\ W.cell? ⟨bu, 1, none⟩ = some (.slice A1x m1x k1x) /\ W.cell? ⟨bu, 2, none⟩ = some (.slice A2x m2x k2x) /\ W.cell? ⟨bu, 3, none⟩ = some (.slice A3x m3x k3x) /\ W.cell? ⟨bu, 4, none⟩ = some (.slice A4x m4x k4x) /\ W.cell? ⟨bu, 5, none⟩ = some (.slice A5x m5x k5x))) /\ (convert 34 9 u9).run Try.prog W = .ok (.string (strOfNums (saveT tt))) W)) V11 := ⟨⟨⟨Xt.out.cell 0, Xt.out.cell 1, Xt.out.cell 2, Xt.out.cell 3, Xt.out.cell 4, Xt.out.cell 5⟩, ⟨Xx.out.cell 0, Xx.out.cell 1, Xx.out.cell 2, Xx.out.cell 3, Xx.out.cell 4, Xx.out.cell 5⟩⟩, run_convB HU9.out⟩
   refine ⟨_, rfl, ?_⟩
   refine hK _ _ hS ?_
   clear hK
   try simp only [Act.put, zq1, zq2, zq3, zq4, zq5, zq6]
   clear hS
   refine anyX_mono (S' := (fun W : World => ((((W.cell? ⟨bt, 0, none⟩ = some (.slice A0t m0t k0t) /\ W.cell? ⟨bt, 1, none⟩ = some (.slice A1t m1t k1t) /\ W.cell? ⟨bt, 2, none⟩ = some (.slice A2t m2t k2t) /\ W.cell? ⟨bt, 3, none⟩ = some (.slice A3t m3t k3t) /\ W.cell? ⟨bt, 4, none⟩ = some (.slice A4t m4t k4t) /\ W.cell? ⟨bt, 5, none⟩ = some (.slice A5t m5t k5t)) /\ (W.cell? ⟨bu, 0, none⟩ = some (.slice A0x m0x k0x) /\ W.cell? ⟨bu, 1, none⟩ = some (.slice A1x m1x k1x) /\ W.cell? ⟨bu, 2, none⟩ = some (.slice A2x m2x k2x) /\ W.cell? ⟨bu, 3, none⟩ = some (.slice A3x m3x k3x) /\ W.cell? ⟨bu, 4, none⟩ = some (.slice A4x m4x k4x) /\ W.cell? ⟨bu, 5, none⟩ = some (.slice A5x m5x k5x))) /\ (convert 34 9 u9).run Try.prog W = .ok (.string (strOfNums (saveT tt))) W) /\ (convert 34 9 y9).run Try.prog W = .ok (.string (strOfNums (saveT tx))) W))) (fun _ h => h.1) ?_
   have hS : (fun W : World => ((((W.cell? ⟨bt, 0, none⟩ = some (.slice A0t m0t k0t) /\ W.cell? ⟨bt, 1, none⟩ = some (.slice A1t m1t k1t) /\ W.cell? ⟨bt, 2, none⟩ = some (.slice A2t m2t k2t) /\ W.cell? ⟨bt, 3, none⟩ = some (.slice A3t m3t k3t) /\ W.cell? ⟨bt, 4, none⟩ = some (.slice A4t m4t k4t) /\ W.cell? ⟨bt, 5, none⟩ = some (.slice A5t m5t k5t)) /\ (W.cell? ⟨bu, 0, none⟩ = some (.slice A0x m0x k0x) /\ W.cell? ⟨bu, 1, none⟩ = some (.slice A1x m1x k1x) /\ W.cell? ⟨bu, 2, none⟩ = some (.slice A2x m2x k2x) /\ W.cell? ⟨bu, 3, none⟩ = some (.slice A3x m3x k3x) /\ W.cell? ⟨bu, 4, none⟩ = some (.slice A4x m4x k4x) /\ W.cell? ⟨bu, 5, none⟩ = some (.slice A5x m5x k5x))) /\ (convert 34 9 u9).run Try.prog W = .ok (.string (strOfNums (saveT tt))) W) /\ (convert 34 9 y9).run Try.prog W = .ok (.string (strOfNums (saveT tx))) W)) V11 := ⟨⟨⟨⟨Xt.out.cell 0, Xt.out.cell 1, Xt.out.cell 2, Xt.out.cell 3, Xt.out.cell 4, Xt.out.cell 5⟩, ⟨Xx.out.cell 0, Xx.out.cell 1, Xx.out.cell 2, Xx.out.cell 3, Xx.out.cell 4, Xx.out.cell 5⟩⟩, run_convB HU9.out⟩, run_convB HY9.out⟩
   refine tkx (i := 5) (v := .string (strOfNums (saveT tx))) hS ?_ ?_
   ·rintro w' ⟨-, cw'⟩
    try simp only [zq1, zq2, zq3]
    unfold execOp
    simp only [Sem.run_bind, Sem.run_pure, Result.andThen_ok]
    exact (by simp only [Act.eval, zq1, zq2, zq3]; go_simp)
   try simp only [Act.put, zq1, zq2, zq3, zq4, zq5, zq6]
   refine tkx (i := 6) (v := .bool rr) hS ?_ ?_
   ·rintro w' -
    go_simp
    try rw [HRR.out]
   try simp only [Act.put, zq1, zq2, zq3, zq4, zq5, zq6]
   refine anyX_g (i := 9) (by kernel_rfl) (by decide) rfl (by rfl) ?_
   intro K hK
   try simp only [zq1, zq2, zq3]
   refine wp_enterE #[.agg #[.slice A0t m0t k0t, .slice A1t m1t k1t, .slice A2t m2t k2t, .slice A3t m3t k3t, .slice A4t m4t k4t, .slice A5t m5t k5t], .agg #[.slice A0x m0x k0x, .slice A1x m1x k1x, .slice A2x m2x k2x, .slice A3x m3x k3x, .slice A4x m4x k4x, .slice A5x m5x k5x]] Try.func25 (by kernel_rfl) (by kernel_rfl) ?_ (tsame_any HTt.out HTx.out SHt.1 SHx.1 SHt.2.1 SHx.2.1 SHt.2.2.1 SHx.2.2.1 (fun i hi => by rw [SHt.2.2.2 i hi, SHx.2.2.2 i hi])) ?_
   ·go_simp
   rintro e V12 ⟨r9, rfl, hr9, hb⟩
   obtain rfl : rr = r9 := by rw [Bool.eq_iff_iff, HIFF.out, hr9]
   clear hr9
   replace HTt := Lib.hid (HTt.out.below hb)
   replace Xt := Lib.hid (Blk.below Xt.out hb Xt.out.lt)
   replace HTx := Lib.hid (HTx.out.below hb)
   replace Xx := Lib.hid (Blk.below Xx.out hb Xx.out.lt)
   replace HU9 := Lib.hid (HU9.out.below hb)
   replace HY9 := Lib.hid (HY9.out.below hb)
   replace HB := Lib.hid (HB.out.trans (hb.mono HB.out.size))
   clear hb
   clear hS
   have hS : (fun W : World => ((((W.cell? ⟨bt, 0, none⟩ = some (.slice A0t m0t k0t) /\ W.cell? ⟨bt, 1, none⟩ = some (.slice A1t m1t k1t) /\ W.cell? ⟨bt, 2, none⟩ = some (.slice A2t m2t k2t) /\ W.cell? ⟨bt, 3, none⟩ = some (.slice A3t m3t k3t) /\ W.cell? ⟨bt, 4, none⟩ = some (.slice A4t m4t k4t) /\ W.cell? ⟨bt, 5, none⟩ = some (.slice A5t m5t k5t)) /\ (W.cell? ⟨bu, 0, none⟩ = some (.slice A0x m0x k0x) /\ W.cell? ⟨bu, 1, none⟩ = some (.slice A1x m1x k1x) /\ W.cell? ⟨bu, 2, none⟩ = some (.slice A2x m2x k2x) /\ W.cell? ⟨bu, 3, none⟩ = some (.slice A3x m3x k3x) /\ W.cell? ⟨bu, 4, none⟩ = some (.slice A4x m4x k4x) /\ W.cell? ⟨bu, 5, none⟩ = some (.slice A5x m5x k5x))) /\ (convert 34 9 u9).run Try.prog W = .ok (.string (strOfNums (saveT tt))) W) /\ (convert 34 9 y9).run Try.prog W = .ok (.string (strOfNums (saveT tx))) W)) V12 := ⟨⟨⟨⟨Xt.out.cell 0, Xt.out.cell 1, Xt.out.cell 2, Xt.out.cell 3, Xt.out.cell 4, Xt.out.cell 5⟩, ⟨Xx.out.cell 0, Xx.out.cell 1, Xx.out.cell 2, Xx.out.cell 3, Xx.out.cell 4, Xx.out.cell 5⟩⟩, run_convB HU9.out⟩, run_convB HY9.out⟩
   refine ⟨_, rfl, ?_⟩
   refine hK _ _ hS ?_
   clear hK
   try simp only [Act.put, zq1, zq2, zq3, zq4, zq5, zq6]
   refine anyX_g (i := 10) (by kernel_rfl) (by decide) rfl (by rfl) ?_
   intro K hK
   try simp only [zq1, zq2, zq3]
   go_simp
   refine hK _ _ hS ?_
   clear hK
   try simp only [Act.put, zq1, zq2, zq3, zq4, zq5, zq6]
   clear hS
   refine anyX_last (by kernel_rfl) (by kernel_rfl) rfl rfl ?_
   try simp only [zq1, zq2, zq3]
   go_simp
   try apply_assumption
   go_wp2_with fail
   go_ret
   first | exact ⟨rfl, HB.out⟩ | exact ⟨by simp, HB.out⟩
  ·rw [h]
   clear h
   go_wp2_with fail
   refine (make_fr R2.out R5.out R4.out a0 a1 HK.out HN.out).mono ?_
   rintro e V7 ⟨vc, vl, vbn, vbo, vfn, vfe, rfl, ht, hfr, hb⟩
   replace R2 := Lib.hid (R2.out.below hb)
   replace R3 := Lib.hid (R3.out.below hb)
   replace R4 := Lib.hid (R4.out.below hb)
   replace R5 := Lib.hid (R5.out.below hb)
   replace HTt := Lib.hid (HTt.out.below hb)
   replace Xt := Lib.hid (Blk.below Xt.out hb Xt.out.lt)
   replace HB := Lib.hid (HB.out.trans (hb.mono HB.out.size))
   have HB5 := Lib.hid (HB4.out.trans (hb.mono HB4.out.size))
   have Xu7 := Lib.hid (Blk.below Xu.out hb Xu.out.lt)
   have hu5 := Xu.out.lt
   clear hb
   have hrtx := lawTab_right (ns := (z2.take len2)) (ms := (z5.take len5)) (cs := (z4.take len4)) k0 (by omega) n0 (by omega)
   have helx := lawTab_len (ns := (z2.take len2)) (ms := (z5.take len5)) (cs := (z4.take len4)) k0 k9 n0 n9
   obtain ⟨tx, htx⟩ : ∃ t, lawTab (z2.take len2) (z5.take len5) (z4.take len4) k n = t := ⟨_, rfl⟩
   rw [htx] at ht hfr hrtx helx
   have hlens := hrtx.lens helx
   obtain ⟨A0x, k0x, rfl, le0x, lt0x, -⟩ := ht.c.form
   obtain ⟨A1x, k1x, rfl, le1x, lt1x, -⟩ := ht.l.form
   obtain ⟨A2x, k2x, ee, le2x, lt2x⟩ := ht.bn.form
   subst ee
   obtain ⟨A3x, k3x, rfl, le3x, lt3x, -⟩ := ht.bo.form
   obtain ⟨A4x, k4x, ee, le4x, lt4x⟩ := ht.fn.form
   subst ee
   obtain ⟨A5x, k5x, ee, le5x, lt5x⟩ := ht.fe.form
   subst ee
   obtain ⟨m0x, hm0x⟩ : ∃ m, tx.cuts.length = m := ⟨_, rfl⟩
   obtain ⟨m1x, hm1x⟩ : ∃ m, tx.letters.length = m := ⟨_, rfl⟩
   obtain ⟨m2x, hm2x⟩ : ∃ m, tx.bn.length = m := ⟨_, rfl⟩
   obtain ⟨m3x, hm3x⟩ : ∃ m, tx.bo.length = m := ⟨_, rfl⟩
   obtain ⟨m4x, hm4x⟩ : ∃ m, tx.fn.length = m := ⟨_, rfl⟩
   obtain ⟨m5x, hm5x⟩ : ∃ m, tx.fe.length = m := ⟨_, rfl⟩
   rw [hm0x, hm1x, hm2x, hm3x, hm4x, hm5x] at ht hfr hlens
   rw [hm0x] at le0x
   rw [hm1x] at le1x
   rw [hm2x] at le2x
   rw [hm3x] at le3x
   rw [hm4x] at le4x
   rw [hm5x] at le5x
   rw [hm0x, hm1x, hm2x, hm3x, hm4x, hm5x]
   obtain ⟨q0x, q1x, q2x, q3x, q4x, q5x⟩ := hlens
   have HM0x := Lib.hid hm0x
   have HM1x := Lib.hid hm1x
   have HM2x := Lib.hid hm2x
   have HM3x := Lib.hid hm3x
   have HM4x := Lib.hid hm4x
   have HM5x := Lib.hid hm5x
   clear R2 R3 R4 R5
   obtain ⟨V8, hV8⟩ : ∃ W, ((((((V7.setCell ⟨bu, 0, none⟩ (.slice A0x m0x k0x)).setCell ⟨bu, 1, none⟩ (.slice A1x m1x k1x)).setCell ⟨bu, 2, none⟩ (.slice A2x m2x k2x)).setCell ⟨bu, 3, none⟩ (.slice A3x m3x k3x)).setCell ⟨bu, 4, none⟩ (.slice A4x m4x k4x)).setCell ⟨bu, 5, none⟩ (.slice A5x m5x k5x)) = W := ⟨_, rfl⟩
   have Xx : Hid (Blk V8 bu 31 #[.slice A0x m0x k0x, .slice A1x m1x k1x, .slice A2x m2x k2x, .slice A3x m3x k3x, .slice A4x m4x k4x, .slice A5x m5x k5x]) := Lib.hid (by rw [<- hV8]; have := ((((((Xu7.out.set_ 0 (.slice A0x m0x k0x)).set_ 1 (.slice A1x m1x k1x)).set_ 2 (.slice A2x m2x k2x)).set_ 3 (.slice A3x m3x k3x)).set_ 4 (.slice A4x m4x k4x)).set_ 5 (.slice A5x m5x k5x)); simpa using this)
   have hne : bt ≠ bu := by have := HBEu.out; omega
   replace Xt : Hid (Blk V8 bt 31 #[.slice A0t m0t k0t, .slice A1t m1t k1t, .slice A2t m2t k2t, .slice A3t m3t k3t, .slice A4t m4t k4t, .slice A5t m5t k5t]) := Lib.hid (by rw [<- hV8]; exact (Blk.far (Blk.far (Blk.far (Blk.far (Blk.far (Blk.far Xt.out (p := ⟨bu, 0, none⟩) hne (.slice A0x m0x k0x)) (p := ⟨bu, 1, none⟩) hne (.slice A1x m1x k1x)) (p := ⟨bu, 2, none⟩) hne (.slice A2x m2x k2x)) (p := ⟨bu, 3, none⟩) hne (.slice A3x m3x k3x)) (p := ⟨bu, 4, none⟩) hne (.slice A4x m4x k4x)) (p := ⟨bu, 5, none⟩) hne (.slice A5x m5x k5x)))
   have hf6 : Fr (fun q => q = bu) V7 V8 := by rw [<- hV8]; exact (((((((Fr.refl (fun q => q = bu) V7).set_ (p := ⟨bu, 0, none⟩) (.inl rfl) (.slice A0x m0x k0x)).set_ (p := ⟨bu, 1, none⟩) (.inl rfl) (.slice A1x m1x k1x)).set_ (p := ⟨bu, 2, none⟩) (.inl rfl) (.slice A2x m2x k2x)).set_ (p := ⟨bu, 3, none⟩) (.inl rfl) (.slice A3x m3x k3x)).set_ (p := ⟨bu, 4, none⟩) (.inl rfl) (.slice A4x m4x k4x)).set_ (p := ⟨bu, 5, none⟩) (.inl rfl) (.slice A5x m5x k5x))
   have HTx := Lib.hid (hfr V8 (hf6.mono (fun k _ e => by have e' : k = bu := e; show k < _; omega)))
   have HB7 := HB
   replace HB := Lib.hid (HB.out.trans (hf6.below (B := w.heap.size) HB.out.size (fun k hk e => by have := HBEu.out; have e' : k = bu := e; omega)))
   replace HTt := Lib.hid (HT4.out.below (HB5.out.trans (hf6.below (B := V4.heap.size) HB5.out.size (fun k hk e => by have := HBEu.out; have e' : k = bu := e; omega))))
   have c0 := Xu7.out.cell 0; have f0 := Xu7.out.frozen 0
   have c1 := Xu7.out.cell 1; have f1 := Xu7.out.frozen 1
   have c2 := Xu7.out.cell 2; have f2 := Xu7.out.frozen 2
   have c3 := Xu7.out.cell 3; have f3 := Xu7.out.frozen 3
   have c4 := Xu7.out.cell 4; have f4 := Xu7.out.frozen 4
   have c5 := Xu7.out.cell 5; have f5 := Xu7.out.frozen 5
   simp only [List.getElem?_toArray, List.getElem?_cons_zero, List.getElem?_cons_succ] at c0 c1 c2 c3 c4 c5
   have HRx := Lib.hid hrtx; have HEx := Lib.hid helx; have TEx := Lib.hid htx; have HV8 := Lib.hid hV8
   have SHx := lawTab_shape (z2.take len2) (z5.take len5) (z4.take len4) k n
   rw [TEx.out] at SHx
   have SHt := lawTab_shape (z2.take len2) (z3.take len3) (z4.take len4) k n
   rw [TEt.out] at SHt
   obtain ⟨rr, hrr⟩ : ∃ r, ((strOfNums (saveT tt)).toList == (strOfNums (saveT tx)).toList) = r := ⟨_, rfl⟩
   have HIFF : Hid (rr = true ↔ tt = tx) := Lib.hid (by rw [<- hrr, strL_inj (saveT_byte tt) (saveT_byte tx)]; exact ⟨fun e => saveT_inj HRt.out HRx.out e, fun e => by rw [e]⟩)
   have HRR := Lib.hid hrr
   clear hf6 HB7 hfr ht hrtx helx htx hV8 hne hrr hlt4 hs4 hu5 HT4 HB4 HB5 Xu7 hm0x hm1x hm2x hm3x hm4x hm5x
   go_wp2_with fail
   clear c0 c1 c2 c3 c4 c5 f0 f1 f2 f3 f4 f5
   rw [HV8.out]
   refine region_x 11 (fun W : World => ((W.cell? ⟨bt, 0, none⟩ = some (.slice A0t m0t k0t) /\ W.cell? ⟨bt, 1, none⟩ = some (.slice A1t m1t k1t) /\ W.cell? ⟨bt, 2, none⟩ = some (.slice A2t m2t k2t) /\ W.cell? ⟨bt, 3, none⟩ = some (.slice A3t m3t k3t) /\ W.cell? ⟨bt, 4, none⟩ = some (.slice A4t m4t k4t) /\ W.cell? ⟨bt, 5, none⟩ = some (.slice A5t m5t k5t)) /\ (W.cell? ⟨bu, 0, none⟩ = some (.slice A0x m0x k0x) /\ W.cell? ⟨bu, 1, none⟩ = some (.slice A1x m1x k1x) /\ W.cell? ⟨bu, 2, none⟩ = some (.slice A2x m2x k2x) /\ W.cell? ⟨bu, 3, none⟩ = some (.slice A3x m3x k3x) /\ W.cell? ⟨bu, 4, none⟩ = some (.slice A4x m4x k4x) /\ W.cell? ⟨bu, 5, none⟩ = some (.slice A5x m5x k5x)))) (by kernel_rfl) ?_
   have hb : Below V8.heap.size V8 V8.drew := (Below.refl _ _).drew
   replace HTt := Lib.hid (HTt.out.below hb)
   replace Xt := Lib.hid (Blk.below Xt.out hb Xt.out.lt)
   replace HTx := Lib.hid (HTx.out.below hb)
   replace Xx := Lib.hid (Blk.below Xx.out hb Xx.out.lt)
   replace HB := Lib.hid (HB.out.trans (hb.mono HB.out.size))
   clear hb
   generalize V8.drew = V9 at *
   have hS : (fun W : World => ((W.cell? ⟨bt, 0, none⟩ = some (.slice A0t m0t k0t) /\ W.cell? ⟨bt, 1, none⟩ = some (.slice A1t m1t k1t) /\ W.cell? ⟨bt, 2, none⟩ = some (.slice A2t m2t k2t) /\ W.cell? ⟨bt, 3, none⟩ = some (.slice A3t m3t k3t) /\ W.cell? ⟨bt, 4, none⟩ = some (.slice A4t m4t k4t) /\ W.cell? ⟨bt, 5, none⟩ = some (.slice A5t m5t k5t)) /\ (W.cell? ⟨bu, 0, none⟩ = some (.slice A0x m0x k0x) /\ W.cell? ⟨bu, 1, none⟩ = some (.slice A1x m1x k1x) /\ W.cell? ⟨bu, 2, none⟩ = some (.slice A2x m2x k2x) /\ W.cell? ⟨bu, 3, none⟩ = some (.slice A3x m3x k3x) /\ W.cell? ⟨bu, 4, none⟩ = some (.slice A4x m4x k4x) /\ W.cell? ⟨bu, 5, none⟩ = some (.slice A5x m5x k5x)))) V9 := ⟨⟨Xt.out.cell 0, Xt.out.cell 1, Xt.out.cell 2, Xt.out.cell 3, Xt.out.cell 4, Xt.out.cell 5⟩, ⟨Xx.out.cell 0, Xx.out.cell 1, Xx.out.cell 2, Xx.out.cell 3, Xx.out.cell 4, Xx.out.cell 5⟩⟩
   refine tkx (i := 0) (v := ?_) hS ?_ ?_
   rotate_left
   ·rintro w' ⟨⟨a0', a1', a2', a3', a4', a5'⟩, ⟨b0', b1', b2', b3', b4', b5'⟩⟩
    go_simp
    try with_reducible rfl
   try simp only [Act.put, zq1, zq2, zq3, zq4, zq5, zq6]
   refine tkx (i := 3) (v := ?_) hS ?_ ?_
   rotate_left
   ·rintro w' ⟨⟨a0', a1', a2', a3', a4', a5'⟩, ⟨b0', b1', b2', b3', b4', b5'⟩⟩
    go_simp
    try with_reducible rfl
   try simp only [Act.put, zq1, zq2, zq3, zq4, zq5, zq6]
   refine tkx (i := 7) (v := ?_) hS ?_ ?_
   rotate_left
   ·rintro w' ⟨⟨a0', a1', a2', a3', a4', a5'⟩, ⟨b0', b1', b2', b3', b4', b5'⟩⟩
    go_simp
    try with_reducible rfl
   try simp only [Act.put, zq1, zq2, zq3, zq4, zq5, zq6]
   refine tkx (i := 8) (v := ?_) hS ?_ ?_
   rotate_left
   ·rintro w' ⟨⟨a0', a1', a2', a3', a4', a5'⟩, ⟨b0', b1', b2', b3', b4', b5'⟩⟩
    go_simp
    try with_reducible rfl
   try simp only [Act.put, zq1, zq2, zq3, zq4, zq5, zq6]
   refine anyX_g (i := 1) (by kernel_rfl) (by decide) rfl (by rfl) ?_
   intro K hK
   try simp only [zq1, zq2, zq3]
   refine wp_enterE #[.agg #[.slice A0t m0t k0t, .slice A1t m1t k1t, .slice A2t m2t k2t, .slice A3t m3t k3t, .slice A4t m4t k4t, .slice A5t m5t k5t]] Try.func15 (by kernel_rfl) (by kernel_rfl) ?_ (tsave_any HTt.out (fun _ => (Nat.le_trans HEt.out (by decide)))) ?_
   ·go_simp
   rintro e V10 ⟨u9, rfl, ho9, -, hb⟩
   replace HTt := Lib.hid (HTt.out.below hb)
   replace Xt := Lib.hid (Blk.below Xt.out hb Xt.out.lt)
   replace HTx := Lib.hid (HTx.out.below hb)
   replace Xx := Lib.hid (Blk.below Xx.out hb Xx.out.lt)
   replace HB := Lib.hid (HB.out.trans (hb.mono HB.out.size))
   clear hb
   have HU9 := Lib.hid (ho9 HRt.out)
   clear ho9 hS
   have hS : (fun W : World => ((W.cell? ⟨bt, 0, none⟩ = some (.slice A0t m0t k0t) /\ W.cell? ⟨bt, 1, none⟩ = some (.slice A1t m1t k1t) /\ W.cell? ⟨bt, 2, none⟩ = some (.slice A2t m2t k2t) /\ W.cell? ⟨bt, 3, none⟩ = some (.slice A3t m3t k3t) /\ W.cell? ⟨bt, 4, none⟩ = some (.slice A4t m4t k4t) /\ W.cell? ⟨bt, 5, none⟩ = some (.slice A5t m5t k5t)) /\ (W.cell? ⟨bu, 0, none⟩ = some (.slice A0x m0x k0x) /\ W.cell? ⟨bu, 1, none⟩ = some (.slice A1x m1x k1x) /\ W.cell? ⟨bu, 2, none⟩ = some (.slice A2x m2x k2x) /\ W.cell? ⟨bu, 3, none⟩ = some (.slice A3x m3x k3x) /\ W.cell? ⟨bu, 4, none⟩ = some (.slice A4x m4x k4x) /\ W.cell? ⟨bu, 5, none⟩ = some (.slice A5x m5x k5x)))) V10 := ⟨⟨Xt.out.cell 0, Xt.out.cell 1, Xt.out.cell 2, Xt.out.cell 3, Xt.out.cell 4, Xt.out.cell 5⟩, ⟨Xx.out.cell 0, Xx.out.cell 1, Xx.out.cell 2, Xx.out.cell 3, Xx.out.cell 4, Xx.out.cell 5⟩⟩
   refine ⟨_, rfl, ?_⟩
   refine hK _ _ hS ?_
   clear hK
   try simp only [Act.put, zq1, zq2, zq3, zq4, zq5, zq6]
   clear hS
   refine anyX_mono (S' := (fun W : World => (((W.cell? ⟨bt, 0, none⟩ = some (.slice A0t m0t k0t) /\ W.cell? ⟨bt, 1, none⟩ = some (.slice A1t m1t k1t) /\ W.cell? ⟨bt, 2, none⟩ = some (.slice A2t m2t k2t) /\ W.cell? ⟨bt, 3, none⟩ = some (.slice A3t m3t k3t) /\ W.cell? ⟨bt, 4, none⟩ = some (.slice A4t m4t k4t) /\ W.cell? ⟨bt, 5, none⟩ = some (.slice A5t m5t k5t)) /\ (W.cell? ⟨bu, 0, none⟩ = some (.slice A0x m0x k0x) /\ W.cell? ⟨bu, 1, none⟩ = some (.slice A1x m1x k1x) /\ W.cell? ⟨bu, 2, none⟩ = some (.slice A2x m2x k2x) /\ W.cell? ⟨bu, 3, none⟩ = some (.slice A3x m3x k3x) /\ W.cell? ⟨bu, 4, none⟩ = some (.slice A4x m4x k4x) /\ W.cell? ⟨bu, 5, none⟩ = some (.slice A5x m5x k5x))) /\ (convert 34 9 u9).run Try.prog W = .ok (.string (strOfNums (saveT tt))) W))) (fun _ h => h.1) ?_
   have hS : (fun W : World => (((W.cell? ⟨bt, 0, none⟩ = some (.slice A0t m0t k0t) /\ W.cell? ⟨bt, 1, none⟩ = some (.slice A1t m1t k1t) /\ W.cell? ⟨bt, 2, none⟩ = some (.slice A2t m2t k2t) /\ W.cell? ⟨bt, 3, none⟩ = some (.slice A3t m3t k3t) /\ W.cell? ⟨bt, 4, none⟩ = some (.slice A4t m4t k4t) /\ W.cell? ⟨bt, 5, none⟩ = some (.slice A5t m5t k5t)) /\ (W.cell? ⟨bu, 0, none⟩ = some (.slice A0x m0x k0x) /\ W.cell? ⟨bu, 1, none⟩ = some (.slice A1x m1x k1x) /\ W.cell? ⟨bu, 2, none⟩ = some (.slice A2x m2x k2x) /\ W.cell? ⟨bu, 3, none⟩ = some (.slice A3x m3x k3x) /\ W.cell? ⟨bu, 4, none⟩ = some (.slice A4x m4x k4x) /\ W.cell? ⟨bu, 5, none⟩ = some (.slice A5x m5x k5x))) /\ (convert 34 9 u9).run Try.prog W = .ok (.string (strOfNums (saveT tt))) W)) V10 := ⟨⟨⟨Xt.out.cell 0, Xt.out.cell 1, Xt.out.cell 2, Xt.out.cell 3, Xt.out.cell 4, Xt.out.cell 5⟩, ⟨Xx.out.cell 0, Xx.out.cell 1, Xx.out.cell 2, Xx.out.cell 3, Xx.out.cell 4, Xx.out.cell 5⟩⟩, run_convB HU9.out⟩
   refine tkx (i := 2) (v := .string (strOfNums (saveT tt))) hS ?_ ?_
   ·rintro w' ⟨-, cv'⟩
    try simp only [zq1, zq2, zq3]
    unfold execOp
    simp only [Sem.run_bind, Sem.run_pure, Result.andThen_ok]
    exact (by simp only [Act.eval, zq1, zq2, zq3]; go_simp)
   try simp only [Act.put, zq1, zq2, zq3, zq4, zq5, zq6]
   refine anyX_g (i := 4) (by kernel_rfl) (by decide) rfl (by rfl) ?_
   intro K hK
   try simp only [zq1, zq2, zq3]
   refine wp_enterE #[.agg #[.slice A0x m0x k0x, .slice A1x m1x k1x, .slice A2x m2x k2x, .slice A3x m3x k3x, .slice A4x m4x k4x, .slice A5x m5x k5x]] Try.func15 (by kernel_rfl) (by kernel_rfl) ?_ (tsave_any HTx.out (fun _ => (Nat.le_trans HEx.out (by decide)))) ?_
   ·go_simp
   rintro e V11 ⟨y9, rfl, ho9, -, hb⟩
   replace HTt := Lib.hid (HTt.out.below hb)
   replace Xt := Lib.hid (Blk.below Xt.out hb Xt.out.lt)
   replace HTx := Lib.hid (HTx.out.below hb)
   replace Xx := Lib.hid (Blk.below Xx.out hb Xx.out.lt)
   replace HU9 := Lib.hid (HU9.out.below hb)
   replace HB := Lib.hid (HB.out.trans (hb.mono HB.out.size))
   clear hb
   have HY9 := Lib.hid (ho9 HRx.out)
   clear ho9 hS
   have hS : (fun W : World => (((W.cell? ⟨bt, 0, none⟩ = some (.slice A0t m0t k0t) /\ W.cell? ⟨bt, 1, none⟩ = some (.slice A1t m1t k1t) /\ W.cell? ⟨bt, 2, none⟩ = some (.slice A2t m2t k2t) /\ W.cell? ⟨bt, 3, none⟩ = some (.slice A3t m3t k3t) /\ W.cell? ⟨bt, 4, none⟩ = some (.slice A4t m4t k4t) /\ W.cell? ⟨bt, 5, none⟩ = some (.slice A5t m5t k5t)) /\ (W.cell? ⟨bu, 0, none⟩ = some (.slice A0x m0x k0x) /\ W.cell? ⟨bu, 1, none⟩ = some (.slice A1x m1x k1x) /\ W.cell? ⟨bu, 2, none⟩ = some (.slice A2x m2x k2x) /\ W.cell? ⟨bu, 3, none⟩ = some (.slice A3x m3x k3x) /\ W.cell? ⟨bu, 4, none⟩ = some (.slice A4x m4x k4x) /\ W.cell? ⟨bu, 5, none⟩ = some (.slice A5x m5x k5x))) /\ (convert 34 9 u9).run Try.prog W = .ok (.string (strOfNums (saveT tt))) W)) V11 := ⟨⟨⟨Xt.out.cell 0, Xt.out.cell 1, Xt.out.cell 2, Xt.out.cell 3, Xt.out.cell 4, Xt.out.cell 5⟩, ⟨Xx.out.cell 0, Xx.out.cell 1, Xx.out.cell 2, Xx.out.cell 3, Xx.out.cell 4, Xx.out.cell 5⟩⟩, run_convB HU9.out⟩
   refine ⟨_, rfl, ?_⟩
   refine hK _ _ hS ?_
   clear hK
   try simp only [Act.put, zq1, zq2, zq3, zq4, zq5, zq6]
   clear hS
   refine anyX_mono (S' := (fun W : World => ((((W.cell? ⟨bt, 0, none⟩ = some (.slice A0t m0t k0t) /\ W.cell? ⟨bt, 1, none⟩ = some (.slice A1t m1t k1t) /\ W.cell? ⟨bt, 2, none⟩ = some (.slice A2t m2t k2t) /\ W.cell? ⟨bt, 3, none⟩ = some (.slice A3t m3t k3t) /\ W.cell? ⟨bt, 4, none⟩ = some (.slice A4t m4t k4t) /\ W.cell? ⟨bt, 5, none⟩ = some (.slice A5t m5t k5t)) /\ (W.cell? ⟨bu, 0, none⟩ = some (.slice A0x m0x k0x) /\ W.cell? ⟨bu, 1, none⟩ = some (.slice A1x m1x k1x) /\ W.cell? ⟨bu, 2, none⟩ = some (.slice A2x m2x k2x) /\ W.cell? ⟨bu, 3, none⟩ = some (.slice A3x m3x k3x) /\ W.cell? ⟨bu, 4, none⟩ = some (.slice A4x m4x k4x) /\ W.cell? ⟨bu, 5, none⟩ = some (.slice A5x m5x k5x))) /\ (convert 34 9 u9).run Try.prog W = .ok (.string (strOfNums (saveT tt))) W) /\ (convert 34 9 y9).run Try.prog W = .ok (.string (strOfNums (saveT tx))) W))) (fun _ h => h.1) ?_
   have hS : (fun W : World => ((((W.cell? ⟨bt, 0, none⟩ = some (.slice A0t m0t k0t) /\ W.cell? ⟨bt, 1, none⟩ = some (.slice A1t m1t k1t) /\ W.cell? ⟨bt, 2, none⟩ = some (.slice A2t m2t k2t) /\ W.cell? ⟨bt, 3, none⟩ = some (.slice A3t m3t k3t) /\ W.cell? ⟨bt, 4, none⟩ = some (.slice A4t m4t k4t) /\ W.cell? ⟨bt, 5, none⟩ = some (.slice A5t m5t k5t)) /\ (W.cell? ⟨bu, 0, none⟩ = some (.slice A0x m0x k0x) /\ W.cell? ⟨bu, 1, none⟩ = some (.slice A1x m1x k1x) /\ W.cell? ⟨bu, 2, none⟩ = some (.slice A2x m2x k2x) /\ W.cell? ⟨bu, 3, none⟩ = some (.slice A3x m3x k3x) /\ W.cell? ⟨bu, 4, none⟩ = some (.slice A4x m4x k4x) /\ W.cell? ⟨bu, 5, none⟩ = some (.slice A5x m5x k5x))) /\ (convert 34 9 u9).run Try.prog W = .ok (.string (strOfNums (saveT tt))) W) /\ (convert 34 9 y9).run Try.prog W = .ok (.string (strOfNums (saveT tx))) W)) V11 := ⟨⟨⟨⟨Xt.out.cell 0, Xt.out.cell 1, Xt.out.cell 2, Xt.out.cell 3, Xt.out.cell 4, Xt.out.cell 5⟩, ⟨Xx.out.cell 0, Xx.out.cell 1, Xx.out.cell 2, Xx.out.cell 3, Xx.out.cell 4, Xx.out.cell 5⟩⟩, run_convB HU9.out⟩, run_convB HY9.out⟩
   refine tkx (i := 5) (v := .string (strOfNums (saveT tx))) hS ?_ ?_
   ·rintro w' ⟨-, cw'⟩
    try simp only [zq1, zq2, zq3]
    unfold execOp
    simp only [Sem.run_bind, Sem.run_pure, Result.andThen_ok]
    exact (by simp only [Act.eval, zq1, zq2, zq3]; go_simp)
   try simp only [Act.put, zq1, zq2, zq3, zq4, zq5, zq6]
   refine tkx (i := 6) (v := .bool rr) hS ?_ ?_
   ·rintro w' -
    go_simp
    try rw [HRR.out]
   try simp only [Act.put, zq1, zq2, zq3, zq4, zq5, zq6]
   refine anyX_g (i := 9) (by kernel_rfl) (by decide) rfl (by rfl) ?_
   intro K hK
   try simp only [zq1, zq2, zq3]
   refine wp_enterE #[.agg #[.slice A0t m0t k0t, .slice A1t m1t k1t, .slice A2t m2t k2t, .slice A3t m3t k3t, .slice A4t m4t k4t, .slice A5t m5t k5t], .agg #[.slice A0x m0x k0x, .slice A1x m1x k1x, .slice A2x m2x k2x, .slice A3x m3x k3x, .slice A4x m4x k4x, .slice A5x m5x k5x]] Try.func25 (by kernel_rfl) (by kernel_rfl) ?_ (tsame_any HTt.out HTx.out SHt.1 SHx.1 SHt.2.1 SHx.2.1 SHt.2.2.1 SHx.2.2.1 (fun i hi => by rw [SHt.2.2.2 i hi, SHx.2.2.2 i hi])) ?_
   ·go_simp
   rintro e V12 ⟨r9, rfl, hr9, hb⟩
   obtain rfl : rr = r9 := by rw [Bool.eq_iff_iff, HIFF.out, hr9]
   clear hr9
   replace HTt := Lib.hid (HTt.out.below hb)
   replace Xt := Lib.hid (Blk.below Xt.out hb Xt.out.lt)
   replace HTx := Lib.hid (HTx.out.below hb)
   replace Xx := Lib.hid (Blk.below Xx.out hb Xx.out.lt)
   replace HU9 := Lib.hid (HU9.out.below hb)
   replace HY9 := Lib.hid (HY9.out.below hb)
   replace HB := Lib.hid (HB.out.trans (hb.mono HB.out.size))
   clear hb
   clear hS
   have hS : (fun W : World => ((((W.cell? ⟨bt, 0, none⟩ = some (.slice A0t m0t k0t) /\ W.cell? ⟨bt, 1, none⟩ = some (.slice A1t m1t k1t) /\ W.cell? ⟨bt, 2, none⟩ = some (.slice A2t m2t k2t) /\ W.cell? ⟨bt, 3, none⟩ = some (.slice A3t m3t k3t) /\ W.cell? ⟨bt, 4, none⟩ = some (.slice A4t m4t k4t) /\ W.cell? ⟨bt, 5, none⟩ = some (.slice A5t m5t k5t)) /\ (W.cell? ⟨bu, 0, none⟩ = some (.slice A0x m0x k0x) /\ W.cell? ⟨bu, 1, none⟩ = some (.slice A1x m1x k1x) /\ W.cell? ⟨bu, 2, none⟩ = some (.slice A2x m2x k2x) /\ W.cell? ⟨bu, 3, none⟩ = some (.slice A3x m3x k3x) /\ W.cell? ⟨bu, 4, none⟩ = some (.slice A4x m4x k4x) /\ W.cell? ⟨bu, 5, none⟩ = some (.slice A5x m5x k5x))) /\ (convert 34 9 u9).run Try.prog W = .ok (.string (strOfNums (saveT tt))) W) /\ (convert 34 9 y9).run Try.prog W = .ok (.string (strOfNums (saveT tx))) W)) V12 := ⟨⟨⟨⟨Xt.out.cell 0, Xt.out.cell 1, Xt.out.cell 2, Xt.out.cell 3, Xt.out.cell 4, Xt.out.cell 5⟩, ⟨Xx.out.cell 0, Xx.out.cell 1, Xx.out.cell 2, Xx.out.cell 3, Xx.out.cell 4, Xx.out.cell 5⟩⟩, run_convB HU9.out⟩, run_convB HY9.out⟩
   refine ⟨_, rfl, ?_⟩
   refine hK _ _ hS ?_
   clear hK
   try simp only [Act.put, zq1, zq2, zq3, zq4, zq5, zq6]
   refine anyX_g (i := 10) (by kernel_rfl) (by decide) rfl (by rfl) ?_
   intro K hK
   try simp only [zq1, zq2, zq3]
   go_simp
   refine hK _ _ hS ?_
   clear hK
   try simp only [Act.put, zq1, zq2, zq3, zq4, zq5, zq6]
   clear hS
   refine anyX_last (by kernel_rfl) (by kernel_rfl) rfl rfl ?_
   try simp only [zq1, zq2, zq3]
   go_simp
   try apply_assumption
   go_wp2_with fail
   go_ret
   first | exact ⟨rfl, HB.out⟩ | exact ⟨by simp, HB.out⟩
  ·rw [h]
   clear h
   go_wp2_with fail
   refine (make_fr R2.out R3.out R5.out a0 a1 HK.out HN.out).mono ?_
   rintro e V7 ⟨vc, vl, vbn, vbo, vfn, vfe, rfl, ht, hfr, hb⟩
   replace R2 := Lib.hid (R2.out.below hb)
   replace R3 := Lib.hid (R3.out.below hb)
   replace R4 := Lib.hid (R4.out.below hb)
   replace R5 := Lib.hid (R5.out.below hb)
   replace HTt := Lib.hid (HTt.out.below hb)
   replace Xt := Lib.hid (Blk.below Xt.out hb Xt.out.lt)
   replace HB := Lib.hid (HB.out.trans (hb.mono HB.out.size))
   have HB5 := Lib.hid (HB4.out.trans (hb.mono HB4.out.size))
   have Xu7 := Lib.hid (Blk.below Xu.out hb Xu.out.lt)
   have hu5 := Xu.out.lt
   clear hb
   have hrtx := lawTab_right (ns := (z2.take len2)) (ms := (z3.take len3)) (cs := (z5.take len5)) k0 (by omega) n0 (by omega)
   have helx := lawTab_len (ns := (z2.take len2)) (ms := (z3.take len3)) (cs := (z5.take len5)) k0 k9 n0 n9
   obtain ⟨tx, htx⟩ : ∃ t, lawTab (z2.take len2) (z3.take len3) (z5.take len5) k n = t := ⟨_, rfl⟩
   rw [htx] at ht hfr hrtx helx
   have hlens := hrtx.lens helx
   obtain ⟨A0x, k0x, rfl, le0x, lt0x, -⟩ := ht.c.form
   obtain ⟨A1x, k1x, rfl, le1x, lt1x, -⟩ := ht.l.form
   obtain ⟨A2x, k2x, ee, le2x, lt2x⟩ := ht.bn.form
   subst ee
   obtain ⟨A3x, k3x, rfl, le3x, lt3x, -⟩ := ht.bo.form
   obtain ⟨A4x, k4x, ee, le4x, lt4x⟩ := ht.fn.form
   subst ee
   obtain ⟨A5x, k5x, ee, le5x, lt5x⟩ := ht.fe.form
   subst ee
   obtain ⟨m0x, hm0x⟩ : ∃ m, tx.cuts.length = m := ⟨_, rfl⟩
   obtain ⟨m1x, hm1x⟩ : ∃ m, tx.letters.length = m := ⟨_, rfl⟩
   obtain ⟨m2x, hm2x⟩ : ∃ m, tx.bn.length = m := ⟨_, rfl⟩
   obtain ⟨m3x, hm3x⟩ : ∃ m, tx.bo.length = m := ⟨_, rfl⟩
   obtain ⟨m4x, hm4x⟩ : ∃ m, tx.fn.length = m := ⟨_, rfl⟩
   obtain ⟨m5x, hm5x⟩ : ∃ m, tx.fe.length = m := ⟨_, rfl⟩
   rw [hm0x, hm1x, hm2x, hm3x, hm4x, hm5x] at ht hfr hlens
   rw [hm0x] at le0x
   rw [hm1x] at le1x
   rw [hm2x] at le2x
   rw [hm3x] at le3x
   rw [hm4x] at le4x
   rw [hm5x] at le5x
   rw [hm0x, hm1x, hm2x, hm3x, hm4x, hm5x]
   obtain ⟨q0x, q1x, q2x, q3x, q4x, q5x⟩ := hlens
   have HM0x := Lib.hid hm0x
   have HM1x := Lib.hid hm1x
   have HM2x := Lib.hid hm2x
   have HM3x := Lib.hid hm3x
   have HM4x := Lib.hid hm4x
   have HM5x := Lib.hid hm5x
   clear R2 R3 R4 R5
   obtain ⟨V8, hV8⟩ : ∃ W, ((((((V7.setCell ⟨bu, 0, none⟩ (.slice A0x m0x k0x)).setCell ⟨bu, 1, none⟩ (.slice A1x m1x k1x)).setCell ⟨bu, 2, none⟩ (.slice A2x m2x k2x)).setCell ⟨bu, 3, none⟩ (.slice A3x m3x k3x)).setCell ⟨bu, 4, none⟩ (.slice A4x m4x k4x)).setCell ⟨bu, 5, none⟩ (.slice A5x m5x k5x)) = W := ⟨_, rfl⟩
   have Xx : Hid (Blk V8 bu 31 #[.slice A0x m0x k0x, .slice A1x m1x k1x, .slice A2x m2x k2x, .slice A3x m3x k3x, .slice A4x m4x k4x, .slice A5x m5x k5x]) := Lib.hid (by rw [<- hV8]; have := ((((((Xu7.out.set_ 0 (.slice A0x m0x k0x)).set_ 1 (.slice A1x m1x k1x)).set_ 2 (.slice A2x m2x k2x)).set_ 3 (.slice A3x m3x k3x)).set_ 4 (.slice A4x m4x k4x)).set_ 5 (.slice A5x m5x k5x)); simpa using this)
   have hne : bt ≠ bu := by have := HBEu.out; omega
   replace Xt : Hid (Blk V8 bt 31 #[.slice A0t m0t k0t, .slice A1t m1t k1t, .slice A2t m2t k2t, .slice A3t m3t k3t, .slice A4t m4t k4t, .slice A5t m5t k5t]) := Lib.hid (by rw [<- hV8]; exact (Blk.far (Blk.far (Blk.far (Blk.far (Blk.far (Blk.far Xt.out (p := ⟨bu, 0, none⟩) hne (.slice A0x m0x k0x)) (p := ⟨bu, 1, none⟩) hne (.slice A1x m1x k1x)) (p := ⟨bu, 2, none⟩) hne (.slice A2x m2x k2x)) (p := ⟨bu, 3, none⟩) hne (.slice A3x m3x k3x)) (p := ⟨bu, 4, none⟩) hne (.slice A4x m4x k4x)) (p := ⟨bu, 5, none⟩) hne (.slice A5x m5x k5x)))
   have hf6 : Fr (fun q => q = bu) V7 V8 := by rw [<- hV8]; exact (((((((Fr.refl (fun q => q = bu) V7).set_ (p := ⟨bu, 0, none⟩) (.inl rfl) (.slice A0x m0x k0x)).set_ (p := ⟨bu, 1, none⟩) (.inl rfl) (.slice A1x m1x k1x)).set_ (p := ⟨bu, 2, none⟩) (.inl rfl) (.slice A2x m2x k2x)).set_ (p := ⟨bu, 3, none⟩) (.inl rfl) (.slice A3x m3x k3x)).set_ (p := ⟨bu, 4, none⟩) (.inl rfl) (.slice A4x m4x k4x)).set_ (p := ⟨bu, 5, none⟩) (.inl rfl) (.slice A5x m5x k5x))
   have HTx := Lib.hid (hfr V8 (hf6.mono (fun k _ e => by have e' : k = bu := e; show k < _; omega)))
   have HB7 := HB
   replace HB := Lib.hid (HB.out.trans (hf6.below (B := w.heap.size) HB.out.size (fun k hk e => by have := HBEu.out; have e' : k = bu := e; omega)))
   replace HTt := Lib.hid (HT4.out.below (HB5.out.trans (hf6.below (B := V4.heap.size) HB5.out.size (fun k hk e => by have := HBEu.out; have e' : k = bu := e; omega))))
   have c0 := Xu7.out.cell 0; have f0 := Xu7.out.frozen 0
   have c1 := Xu7.out.cell 1; have f1 := Xu7.out.frozen 1
   have c2 := Xu7.out.cell 2; have f2 := Xu7.out.frozen 2
   have c3 := Xu7.out.cell 3; have f3 := Xu7.out.frozen 3
   have c4 := Xu7.out.cell 4; have f4 := Xu7.out.frozen 4
   have c5 := Xu7.out.cell 5; have f5 := Xu7.out.frozen 5
   simp only [List.getElem?_toArray, List.getElem?_cons_zero, List.getElem?_cons_succ] at c0 c1 c2 c3 c4 c5
   have HRx := Lib.hid hrtx; have HEx := Lib.hid helx; have TEx := Lib.hid htx; have HV8 := Lib.hid hV8
   have SHx := lawTab_shape (z2.take len2) (z3.take len3) (z5.take len5) k n
   rw [TEx.out] at SHx
   have SHt := lawTab_shape (z2.take len2) (z3.take len3) (z4.take len4) k n
   rw [TEt.out] at SHt
   obtain ⟨rr, hrr⟩ : ∃ r, ((strOfNums (saveT tt)).toList == (strOfNums (saveT tx)).toList) = r := ⟨_, rfl⟩
   have HIFF : Hid (rr = true ↔ tt = tx) := Lib.hid (by rw [<- hrr, strL_inj (saveT_byte tt) (saveT_byte tx)]; exact ⟨fun e => saveT_inj HRt.out HRx.out e, fun e => by rw [e]⟩)
   have HRR := Lib.hid hrr
   clear hf6 HB7 hfr ht hrtx helx htx hV8 hne hrr hlt4 hs4 hu5 HT4 HB4 HB5 Xu7 hm0x hm1x hm2x hm3x hm4x hm5x
   go_wp2_with fail
   clear c0 c1 c2 c3 c4 c5 f0 f1 f2 f3 f4 f5
   rw [HV8.out]
   refine region_x 11 (fun W : World => ((W.cell? ⟨bt, 0, none⟩ = some (.slice A0t m0t k0t) /\ W.cell? ⟨bt, 1, none⟩ = some (.slice A1t m1t k1t) /\ W.cell? ⟨bt, 2, none⟩ = some (.slice A2t m2t k2t) /\ W.cell? ⟨bt, 3, none⟩ = some (.slice A3t m3t k3t) /\ W.cell? ⟨bt, 4, none⟩ = some (.slice A4t m4t k4t) /\ W.cell? ⟨bt, 5, none⟩ = some (.slice A5t m5t k5t)) /\ (W.cell? ⟨bu, 0, none⟩ = some (.slice A0x m0x k0x) /\ W.cell? ⟨bu, 1, none⟩ = some (.slice A1x m1x k1x) /\ W.cell? ⟨bu, 2, none⟩ = some (.slice A2x m2x k2x) /\ W.cell? ⟨bu, 3, none⟩ = some (.slice A3x m3x k3x) /\ W.cell? ⟨bu, 4, none⟩ = some (.slice A4x m4x k4x) /\ W.cell? ⟨bu, 5, none⟩ = some (.slice A5x m5x k5x)))) (by kernel_rfl) ?_
   have hb : Below V8.heap.size V8 V8.drew := (Below.refl _ _).drew
   replace HTt := Lib.hid (HTt.out.below hb)
   replace Xt := Lib.hid (Blk.below Xt.out hb Xt.out.lt)
   replace HTx := Lib.hid (HTx.out.below hb)
   replace Xx := Lib.hid (Blk.below Xx.out hb Xx.out.lt)
   replace HB := Lib.hid (HB.out.trans (hb.mono HB.out.size))
   clear hb
   generalize V8.drew = V9 at *
   have hS : (fun W : World => ((W.cell? ⟨bt, 0, none⟩ = some (.slice A0t m0t k0t) /\ W.cell? ⟨bt, 1, none⟩ = some (.slice A1t m1t k1t) /\ W.cell? ⟨bt, 2, none⟩ = some (.slice A2t m2t k2t) /\ W.cell? ⟨bt, 3, none⟩ = some (.slice A3t m3t k3t) /\ W.cell? ⟨bt, 4, none⟩ = some (.slice A4t m4t k4t) /\ W.cell? ⟨bt, 5, none⟩ = some (.slice A5t m5t k5t)) /\ (W.cell? ⟨bu, 0, none⟩ = some (.slice A0x m0x k0x) /\ W.cell? ⟨bu, 1, none⟩ = some (.slice A1x m1x k1x) /\ W.cell? ⟨bu, 2, none⟩ = some (.slice A2x m2x k2x) /\ W.cell? ⟨bu, 3, none⟩ = some (.slice A3x m3x k3x) /\ W.cell? ⟨bu, 4, none⟩ = some (.slice A4x m4x k4x) /\ W.cell? ⟨bu, 5, none⟩ = some (.slice A5x m5x k5x)))) V9 := ⟨⟨Xt.out.cell 0, Xt.out.cell 1, Xt.out.cell 2, Xt.out.cell 3, Xt.out.cell 4, Xt.out.cell 5⟩, ⟨Xx.out.cell 0, Xx.out.cell 1, Xx.out.cell 2, Xx.out.cell 3, Xx.out.cell 4, Xx.out.cell 5⟩⟩
   refine tkx (i := 0) (v := ?_) hS ?_ ?_
   rotate_left
   ·rintro w' ⟨⟨a0', a1', a2', a3', a4', a5'⟩, ⟨b0', b1', b2', b3', b4', b5'⟩⟩
    go_simp
    try with_reducible rfl
   try simp only [Act.put, zq1, zq2, zq3, zq4, zq5, zq6]
   refine tkx (i := 3) (v := ?_) hS ?_ ?_
   rotate_left
   ·rintro w' ⟨⟨a0', a1', a2', a3', a4', a5'⟩, ⟨b0', b1', b2', b3', b4', b5'⟩⟩
    go_simp
    try with_reducible rfl
   try simp only [Act.put, zq1, zq2, zq3, zq4, zq5, zq6]
   refine tkx (i := 7) (v := ?_) hS ?_ ?_
   rotate_left
   ·rintro w' ⟨⟨a0', a1', a2', a3', a4', a5'⟩, ⟨b0', b1', b2', b3', b4', b5'⟩⟩
    go_simp
    try with_reducible rfl
   try simp only [Act.put, zq1, zq2, zq3, zq4, zq5, zq6]
   refine tkx (i := 8) (v := ?_) hS ?_ ?_
   rotate_left
   ·rintro w' ⟨⟨a0', a1', a2', a3', a4', a5'⟩, ⟨b0', b1', b2', b3', b4', b5'⟩⟩
    go_simp
    try with_reducible rfl
   try simp only [Act.put, zq1, zq2, zq3, zq4, zq5, zq6]
   refine anyX_g (i := 1) (by kernel_rfl) (by decide) rfl (by rfl) ?_
   intro K hK
   try simp only [zq1, zq2, zq3]
   refine wp_enterE #[.agg #[.slice A0t m0t k0t, .slice A1t m1t k1t, .slice A2t m2t k2t, .slice A3t m3t k3t, .slice A4t m4t k4t, .slice A5t m5t k5t]] Try.func15 (by kernel_rfl) (by kernel_rfl) ?_ (tsave_any HTt.out (fun _ => (Nat.le_trans HEt.out (by decide)))) ?_
   ·go_simp
   rintro e V10 ⟨u9, rfl, ho9, -, hb⟩
   replace HTt := Lib.hid (HTt.out.below hb)
   replace Xt := Lib.hid (Blk.below Xt.out hb Xt.out.lt)
   replace HTx := Lib.hid (HTx.out.below hb)
   replace Xx := Lib.hid (Blk.below Xx.out hb Xx.out.lt)
   replace HB := Lib.hid (HB.out.trans (hb.mono HB.out.size))
   clear hb
   have HU9 := Lib.hid (ho9 HRt.out)
   clear ho9 hS
   have hS : (fun W : World => ((W.cell? ⟨bt, 0, none⟩ = some (.slice A0t m0t k0t) /\ W.cell? ⟨bt, 1, none⟩ = some (.slice A1t m1t k1t) /\ W.cell? ⟨bt, 2, none⟩ = some (.slice A2t m2t k2t) /\ W.cell? ⟨bt, 3, none⟩ = some (.slice A3t m3t k3t) /\ W.cell? ⟨bt, 4, none⟩ = some (.slice A4t m4t k4t) /\ W.cell? ⟨bt, 5, none⟩ = some (.slice A5t m5t k5t)) /\ (W.cell? ⟨bu, 0, none⟩ = some (.slice A0x m0x k0x) /\ W.cell? ⟨bu, 1, none⟩ = some (.slice A1x m1x k1x) /\ W.cell? ⟨bu, 2, none⟩ = some (.slice A2x m2x k2x) /\ W.cell? ⟨bu, 3, none⟩ = some (.slice A3x m3x k3x) /\ W.cell? ⟨bu, 4, none⟩ = some (.slice A4x m4x k4x) /\ W.cell? ⟨bu, 5, none⟩ = some (.slice A5x m5x k5x)))) V10 := ⟨⟨Xt.out.cell 0, Xt.out.cell 1, Xt.out.cell 2, Xt.out.cell 3, Xt.out.cell 4, Xt.out.cell 5⟩, ⟨Xx.out.cell 0, Xx.out.cell 1, Xx.out.cell 2, Xx.out.cell 3, Xx.out.cell 4, Xx.out.cell 5⟩⟩
   refine ⟨_, rfl, ?_⟩
   refine hK _ _ hS ?_
   clear hK
   try simp only [Act.put, zq1, zq2, zq3, zq4, zq5, zq6]
   clear hS
   refine anyX_mono (S' := (fun W : World => (((W.cell? ⟨bt, 0, none⟩ = some (.slice A0t m0t k0t) /\ W.cell? ⟨bt, 1, none⟩ = some (.slice A1t m1t k1t) /\ W.cell? ⟨bt, 2, none⟩ = some (.slice A2t m2t k2t) /\ W.cell? ⟨bt, 3, none⟩ = some (.slice A3t m3t k3t) /\ W.cell? ⟨bt, 4, none⟩ = some (.slice A4t m4t k4t) /\ W.cell? ⟨bt, 5, none⟩ = some (.slice A5t m5t k5t)) /\ (W.cell? ⟨bu, 0, none⟩ = some (.slice A0x m0x k0x) /\ W.cell? ⟨bu, 1, none⟩ = some (.slice A1x m1x k1x) /\ W.cell? ⟨bu, 2, none⟩ = some (.slice A2x m2x k2x) /\ W.cell? ⟨bu, 3, none⟩ = some (.slice A3x m3x k3x) /\ W.cell? ⟨bu, 4, none⟩ = some (.slice A4x m4x k4x) /\ W.cell? ⟨bu, 5, none⟩ = some (.slice A5x m5x k5x))) /\ (convert 34 9 u9).run Try.prog W = .ok (.string (strOfNums (saveT tt))) W))) (fun _ h => h.1) ?_
   have hS : (fun W : World => (((W.cell? ⟨bt, 0, none⟩ = some (.slice A0t m0t k0t) /\ W.cell? ⟨bt, 1, none⟩ = some (.slice A1t m1t k1t) /\ W.cell? ⟨bt, 2, none⟩ = some (.slice A2t m2t k2t) /\ W.cell? ⟨bt, 3, none⟩ = some (.slice A3t m3t k3t) /\ W.cell? ⟨bt, 4, none⟩ = some (.slice A4t m4t k4t) /\ W.cell? ⟨bt, 5, none⟩ = some (.slice A5t m5t k5t)) /\ (W.cell? ⟨bu, 0, none⟩ = some (.slice A0x m0x k0x) /\ W.cell? ⟨bu, 1, none⟩ = some (.slice A1x m1x k1x) /\ W.cell? ⟨bu, 2, none⟩ = some (.slice A2x m2x k2x) /\ W.cell? ⟨bu, 3, none⟩ = some (.slice A3x m3x k3x) /\ W.cell? ⟨bu, 4, none⟩ = some (.slice A4x m4x k4x) /\ W.cell? ⟨bu, 5, none⟩ = some (.slice A5x m5x k5x))) /\ (convert 34 9 u9).run Try.prog W = .ok (.string (strOfNums (saveT tt))) W)) V10 := ⟨⟨⟨Xt.out.cell 0, Xt.out.cell 1, Xt.out.cell 2, Xt.out.cell 3, Xt.out.cell 4, Xt.out.cell 5⟩, ⟨Xx.out.cell 0, Xx.out.cell 1, Xx.out.cell 2, Xx.out.cell 3, Xx.out.cell 4, Xx.out.cell 5⟩⟩, run_convB HU9.out⟩
   refine tkx (i := 2) (v := .string (strOfNums (saveT tt))) hS ?_ ?_
   ·rintro w' ⟨-, cv'⟩
    try simp only [zq1, zq2, zq3]
    unfold execOp
    simp only [Sem.run_bind, Sem.run_pure, Result.andThen_ok]
    exact (by simp only [Act.eval, zq1, zq2, zq3]; go_simp)
   try simp only [Act.put, zq1, zq2, zq3, zq4, zq5, zq6]
   refine anyX_g (i := 4) (by kernel_rfl) (by decide) rfl (by rfl) ?_
   intro K hK
   try simp only [zq1, zq2, zq3]
   refine wp_enterE #[.agg #[.slice A0x m0x k0x, .slice A1x m1x k1x, .slice A2x m2x k2x, .slice A3x m3x k3x, .slice A4x m4x k4x, .slice A5x m5x k5x]] Try.func15 (by kernel_rfl) (by kernel_rfl) ?_ (tsave_any HTx.out (fun _ => (Nat.le_trans HEx.out (by decide)))) ?_
   ·go_simp
   rintro e V11 ⟨y9, rfl, ho9, -, hb⟩
   replace HTt := Lib.hid (HTt.out.below hb)
   replace Xt := Lib.hid (Blk.below Xt.out hb Xt.out.lt)
   replace HTx := Lib.hid (HTx.out.below hb)
   replace Xx := Lib.hid (Blk.below Xx.out hb Xx.out.lt)
   replace HU9 := Lib.hid (HU9.out.below hb)
   replace HB := Lib.hid (HB.out.trans (hb.mono HB.out.size))
   clear hb
   have HY9 := Lib.hid (ho9 HRx.out)
   clear ho9 hS
   have hS : (fun W : World => (((W.cell? ⟨bt, 0, none⟩ = some (.slice A0t m0t k0t) /\ W.cell? ⟨bt, 1, none⟩ = some (.slice A1t m1t k1t) /\ W.cell? ⟨bt, 2, none⟩ = some (.slice A2t m2t k2t) /\ W.cell? ⟨bt, 3, none⟩ = some (.slice A3t m3t k3t) /\ W.cell? ⟨bt, 4, none⟩ = some (.slice A4t m4t k4t) /\ W.cell? ⟨bt, 5, none⟩ = some (.slice A5t m5t k5t)) /\ (W.cell? ⟨bu, 0, none⟩ = some (.slice A0x m0x k0x) /\ W.cell? ⟨bu, 1, none⟩ = some (.slice A1x m1x k1x) /\ W.cell? ⟨bu, 2, none⟩ = some (.slice A2x m2x k2x) /\ W.cell? ⟨bu, 3, none⟩ = some (.slice A3x m3x k3x) /\ W.cell? ⟨bu, 4, none⟩ = some (.slice A4x m4x k4x) /\ W.cell? ⟨bu, 5, none⟩ = some (.slice A5x m5x k5x))) /\ (convert 34 9 u9).run Try.prog W = .ok (.string (strOfNums (saveT tt))) W)) V11 := ⟨⟨⟨Xt.out.cell 0, Xt.out.cell 1, Xt.out.cell 2, Xt.out.cell 3, Xt.out.cell 4, Xt.out.cell 5⟩, ⟨Xx.out.cell 0, Xx.out.cell 1, Xx.out.cell 2, Xx.out.cell 3, Xx.out.cell 4, Xx.out.cell 5⟩⟩, run_convB HU9.out⟩
   refine ⟨_, rfl, ?_⟩
   refine hK _ _ hS ?_
   clear hK
   try simp only [Act.put, zq1, zq2, zq3, zq4, zq5, zq6]
   clear hS
   refine anyX_mono (S' := (fun W : World => ((((W.cell? ⟨bt, 0, none⟩ = some (.slice A0t m0t k0t) /\ W.cell? ⟨bt, 1, none⟩ = some (.slice A1t m1t k1t) /\ W.cell? ⟨bt, 2, none⟩ = some (.slice A2t m2t k2t) /\ W.cell? ⟨bt, 3, none⟩ = some (.slice A3t m3t k3t) /\ W.cell? ⟨bt, 4, none⟩ = some (.slice A4t m4t k4t) /\ W.cell? ⟨bt, 5, none⟩ = some (.slice A5t m5t k5t)) /\ (W.cell? ⟨bu, 0, none⟩ = some (.slice A0x m0x k0x) /\ W.cell? ⟨bu, 1, none⟩ = some (.slice A1x m1x k1x) /\ W.cell? ⟨bu, 2, none⟩ = some (.slice A2x m2x k2x) /\ W.cell? ⟨bu, 3, none⟩ = some (.slice A3x m3x k3x) /\ W.cell? ⟨bu, 4, none⟩ = some (.slice A4x m4x k4x) /\ W.cell? ⟨bu, 5, none⟩ = some (.slice A5x m5x k5x))) /\ (convert 34 9 u9).run Try.prog W = .ok (.string (strOfNums (saveT tt))) W) /\ (convert 34 9 y9).run Try.prog W = .ok (.string (strOfNums (saveT tx))) W))) (fun _ h => h.1) ?_
   have hS : (fun W : World => ((((W.cell? ⟨bt, 0, none⟩ = some (.slice A0t m0t k0t) /\ W.cell? ⟨bt, 1, none⟩ = some (.slice A1t m1t k1t) /\ W.cell? ⟨bt, 2, none⟩ = some (.slice A2t m2t k2t) /\ W.cell? ⟨bt, 3, none⟩ = some (.slice A3t m3t k3t) /\ W.cell? ⟨bt, 4, none⟩ = some (.slice A4t m4t k4t) /\ W.cell? ⟨bt, 5, none⟩ = some (.slice A5t m5t k5t)) /\ (W.cell? ⟨bu, 0, none⟩ = some (.slice A0x m0x k0x) /\ W.cell? ⟨bu, 1, none⟩ = some (.slice A1x m1x k1x) /\ W.cell? ⟨bu, 2, none⟩ = some (.slice A2x m2x k2x) /\ W.cell? ⟨bu, 3, none⟩ = some (.slice A3x m3x k3x) /\ W.cell? ⟨bu, 4, none⟩ = some (.slice A4x m4x k4x) /\ W.cell? ⟨bu, 5, none⟩ = some (.slice A5x m5x k5x))) /\ (convert 34 9 u9).run Try.prog W = .ok (.string (strOfNums (saveT tt))) W) /\ (convert 34 9 y9).run Try.prog W = .ok (.string (strOfNums (saveT tx))) W)) V11 := ⟨⟨⟨⟨Xt.out.cell 0, Xt.out.cell 1, Xt.out.cell 2, Xt.out.cell 3, Xt.out.cell 4, Xt.out.cell 5⟩, ⟨Xx.out.cell 0, Xx.out.cell 1, Xx.out.cell 2, Xx.out.cell 3, Xx.out.cell 4, Xx.out.cell 5⟩⟩, run_convB HU9.out⟩, run_convB HY9.out⟩
   refine tkx (i := 5) (v := .string (strOfNums (saveT tx))) hS ?_ ?_
   ·rintro w' ⟨-, cw'⟩
    try simp only [zq1, zq2, zq3]
    unfold execOp
    simp only [Sem.run_bind, Sem.run_pure, Result.andThen_ok]
    exact (by simp only [Act.eval, zq1, zq2, zq3]; go_simp)
   try simp only [Act.put, zq1, zq2, zq3, zq4, zq5, zq6]
   refine tkx (i := 6) (v := .bool rr) hS ?_ ?_
   ·rintro w' -
    go_simp
    try rw [HRR.out]
   try simp only [Act.put, zq1, zq2, zq3, zq4, zq5, zq6]
   refine anyX_g (i := 9) (by kernel_rfl) (by decide) rfl (by rfl) ?_
   intro K hK
   try simp only [zq1, zq2, zq3]
   refine wp_enterE #[.agg #[.slice A0t m0t k0t, .slice A1t m1t k1t, .slice A2t m2t k2t, .slice A3t m3t k3t, .slice A4t m4t k4t, .slice A5t m5t k5t], .agg #[.slice A0x m0x k0x, .slice A1x m1x k1x, .slice A2x m2x k2x, .slice A3x m3x k3x, .slice A4x m4x k4x, .slice A5x m5x k5x]] Try.func25 (by kernel_rfl) (by kernel_rfl) ?_ (tsame_any HTt.out HTx.out SHt.1 SHx.1 SHt.2.1 SHx.2.1 SHt.2.2.1 SHx.2.2.1 (fun i hi => by rw [SHt.2.2.2 i hi, SHx.2.2.2 i hi])) ?_
   ·go_simp
   rintro e V12 ⟨r9, rfl, hr9, hb⟩
   obtain rfl : rr = r9 := by rw [Bool.eq_iff_iff, HIFF.out, hr9]
   clear hr9
   replace HTt := Lib.hid (HTt.out.below hb)
   replace Xt := Lib.hid (Blk.below Xt.out hb Xt.out.lt)
   replace HTx := Lib.hid (HTx.out.below hb)
   replace Xx := Lib.hid (Blk.below Xx.out hb Xx.out.lt)
   replace HU9 := Lib.hid (HU9.out.below hb)
   replace HY9 := Lib.hid (HY9.out.below hb)
   replace HB := Lib.hid (HB.out.trans (hb.mono HB.out.size))
   clear hb
   clear hS
   have hS : (fun W : World => ((((W.cell? ⟨bt, 0, none⟩ = some (.slice A0t m0t k0t) /\ W.cell? ⟨bt, 1, none⟩ = some (.slice A1t m1t k1t) /\ W.cell? ⟨bt, 2, none⟩ = some (.slice A2t m2t k2t) /\ W.cell? ⟨bt, 3, none⟩ = some (.slice A3t m3t k3t) /\ W.cell? ⟨bt, 4, none⟩ = some (.slice A4t m4t k4t) /\ W.cell? ⟨bt, 5, none⟩ = some (.slice A5t m5t k5t)) /\ (W.cell? ⟨bu, 0, none⟩ = some (.slice A0x m0x k0x) /\ W.cell? ⟨bu, 1, none⟩ = some (.slice A1x m1x k1x) /\ W.cell? ⟨bu, 2, none⟩ = some (.slice A2x m2x k2x) /\ W.cell? ⟨bu, 3, none⟩ = some (.slice A3x m3x k3x) /\ W.cell? ⟨bu, 4, none⟩ = some (.slice A4x m4x k4x) /\ W.cell? ⟨bu, 5, none⟩ = some (.slice A5x m5x k5x))) /\ (convert 34 9 u9).run Try.prog W = .ok (.string (strOfNums (saveT tt))) W) /\ (convert 34 9 y9).run Try.prog W = .ok (.string (strOfNums (saveT tx))) W)) V12 := ⟨⟨⟨⟨Xt.out.cell 0, Xt.out.cell 1, Xt.out.cell 2, Xt.out.cell 3, Xt.out.cell 4, Xt.out.cell 5⟩, ⟨Xx.out.cell 0, Xx.out.cell 1, Xx.out.cell 2, Xx.out.cell 3, Xx.out.cell 4, Xx.out.cell 5⟩⟩, run_convB HU9.out⟩, run_convB HY9.out⟩
   refine ⟨_, rfl, ?_⟩
   refine hK _ _ hS ?_
   clear hK
   try simp only [Act.put, zq1, zq2, zq3, zq4, zq5, zq6]
   refine anyX_g (i := 10) (by kernel_rfl) (by decide) rfl (by rfl) ?_
   intro K hK
   try simp only [zq1, zq2, zq3]
   go_simp
   refine hK _ _ hS ?_
   clear hK
   try simp only [Act.put, zq1, zq2, zq3, zq4, zq5, zq6]
   clear hS
   refine anyX_last (by kernel_rfl) (by kernel_rfl) rfl rfl ?_
   try simp only [zq1, zq2, zq3]
   go_simp
   try apply_assumption
   go_wp2_with fail
   go_ret
   first | exact ⟨rfl, HB.out⟩ | exact ⟨by simp, HB.out⟩
end Go.Proofs.Ytjkcglgkdclidaa
