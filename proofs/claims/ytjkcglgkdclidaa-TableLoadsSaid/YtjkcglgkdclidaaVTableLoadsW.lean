/- TableLoads: any bytes are read, or refused, as the document says. -/
import Derived.Test.YtjkcglgkdclidaaVTableTb
import Derived.Test.YtjkcglgkdclidaaVTableTa
import Derived.Test.YtjkcglgkdclidaaVTableTt
set_option linter.unusedVariables false
set_option linter.unusedSimpArgs false
set_option maxRecDepth 100000
set_option maxHeartbeats 8000000
namespace Go.Proofs.Ytjkcglgkdclidaa
open Go Go.RowKit Go.Proofs
theorem wp_forget {P : Program} {c : Code} {Q : Exit -> Act -> World -> Prop} {l : List Value} {d : List Deferred} {w : World} (i : Nat) (h : ∀ u, c.wp P Q ⟨(l.set i u).toArray, d⟩ w) : c.wp P Q ⟨l.toArray, d⟩ w := by
 by_cases hi : i < l.length
 ·have := h l[i]
  rwa [List.set_getElem_self] at this
 ·have := h undef
  rwa [List.set_eq_of_length_le (by omega)] at this
theorem BRow.setAt2 {w : World} {B g cap n : Nat} {l : List Int} (h : BRow w B (.slice (some ⟨g, 0, none⟩) n cap) l) (hn : l.length = n) (k : Nat) (y : Int) : BRow (w.setCell ⟨g, k, none⟩ (.int .u8 y)) B (.slice (some ⟨g, 0, none⟩) n cap) (l.set k y) := by
 subst hn
 exact h.set_ k y
theorem anyX_two2 {P : Program} {ops : Array Oper} {Q : Exit -> Act -> World -> Prop} {md : Region.Mode} {S : World -> Prop} {m i j : Nat} {oi oj : Oper} {fuel : Nat} {listed : Array Bool} {a : Act} {w : World} (hr : Region.ready md ops listed = [i, j]) (hi : i ≠ m) (hj : j ≠ m)
  (hoi : ops[i]? = some oi) (hoj : ops[j]? = some oj) (hwi : oi.guard = none) (hwj : oj.guard = none)
  (h1 : ∀ K' : Act -> World -> Prop, (∀ a w, S w -> anyX P md ops Q S m fuel (listed.setIfInBounds i true) a w -> K' a w) -> Oper.wp P oi a w K' Q)
  (h2 : ∀ K' : Act -> World -> Prop, (∀ a w, S w -> anyX P md ops Q S m fuel (listed.setIfInBounds j true) a w -> K' a w) -> Oper.wp P oj a w K' Q) : anyX P md ops Q S m (fuel + 1) listed a w := by
  refine ⟨fun h0 => (by rw [hr] at h0; cases h0), fun k hk => ?_⟩
  rw [hr] at hk
  have hk' : k = i \/ k = j := by simpa using hk
  rcases hk' with rfl | rfl
  ·have hw : Region.wanted oi (yielded ops a.tmps) = true := by simp [Region.wanted, hwi]
   unfold wpOp
   rw [hoi]
   simp only [hw, if_true]
   exact .inl (h1 _ fun a w hS hx => ⟨fun _ => hS, hx⟩)
  ·have hw : Region.wanted oj (yielded ops a.tmps) = true := by simp [Region.wanted, hwj]
   unfold wpOp
   rw [hoj]
   simp only [hw, if_true]
   exact .inl (h2 _ fun a w hS hx => ⟨fun _ => hS, hx⟩)
theorem byR {w : World} {B n : Nat} {v : Value} {l : List Int} (h : BRow w B v l) (hb : ∀ x ∈ l, ByteI x) (hl : l.length = n) : BytesR w v n l := by
 subst hl
 exact h.bytes hb
structure ZRow (w0 w : World) (B g n cap : Nat) (l : List Int) : Prop where
 o : BRow w B (.slice (some ⟨g, 0, none⟩) n cap) l
 len : l.length = n
 byte : ∀ x ∈ l, ByteI x
 bel : Below B w0 w
theorem tableLoads_walk (a0 : Int) (a1 : Int) (a2 : Option Addr) (len2 cap2 : Nat) (z2 : List Int) (a3 : Option Addr) (len3 cap3 : Nat) (z3 : List Int) (a4 : Option Addr) (len4 cap4 : Nat) (z4 : List Int) (a5 : Option Addr) (len5 cap5 : Nat) (z5 : List Int) (a6 : Option Addr) (len6 cap6 : Nat) (z6 : List Int) (a7 : Int) (a8 : Option Addr) (len8 cap8 : Nat) (z8 : List Int) (a9 : Option Addr) (len9 cap9 : Nat) (z9 : List Int) (w : World) (w0 : (Lit.int .i64 a0).wf = true) (w1 : (Lit.int .i64 a1).wf = true) (w2 : IsRow .i64 w a2 len2 cap2 z2) (w3 : IsRow .i64 w a3 len3 cap3 z3) (w4 : IsRow .i64 w a4 len4 cap4 z4) (w5 : IsRow .i64 w a5 len5 cap5 z5) (w6 : IsRow .u8 w a6 len6 cap6 z6) (w7 : (Lit.int .i64 a7).wf = true) (w8 : IsRow .u8 w a8 len8 cap8 z8) (w9 : IsRow .u8 w a9 len9 cap9 z9) :
  Calls Try.prog 4 #[.int .i64 a0, .int .i64 a1, .slice a2 len2 cap2, .slice a3 len3 cap3, .slice a4 len4 cap4, .slice a5 len5 cap5, .slice a6 len6 cap6, .int .i64 a7, .slice a8 len8 cap8, .slice a9 len9 cap9] w fun e w' => e = .returned (.bool true) /\ Below w.heap.size w w' := by
  have Y6 := Lib.hid w6.bytes
  have Y8 := Lib.hid w8.bytes
  have Y9 := Lib.hid w9.bytes
  have hl6 := w6.len_le.2
  have hl8 := w8.len_le.2
  have hl9 := w9.len_le.2
  have R5 := Lib.hid w5.readsI
  have hl5 := w5.len_le.2
  have hk := kOf_is a0; have hn := nOf_is a1; have hk9 := kOf_lt a0; have hn9 := nOf_lt a1
  obtain ⟨k, ek⟩ : ∃ k, kOf a0 = k := ⟨_, rfl⟩
  obtain ⟨n, en⟩ : ∃ n, nOf a1 = n := ⟨_, rfl⟩
  rw [ek] at hk hk9
  rw [en] at hn hn9
  clear ek en
  obtain ⟨k0, k9⟩ := hk9
  obtain ⟨n0, n9⟩ := hn9
  have HK := Lib.hid hk; have HN := Lib.hid hn
  have R2 := Lib.hid w2.readsI
  have R3 := Lib.hid w3.readsI
  have R4 := Lib.hid w4.readsI
  clear hk hn w0 w1 w2 w3 w4
  clear w5 w6 w7 w8 w9
  obtain ⟨y6, hy6⟩ : ∃ l, z6.take len6 = l := ⟨_, rfl⟩
  rw [hy6] at Y6
  have HL6 : Hid (y6.length = len6) := Lib.hid Y6.out.1.1
  clear hy6
  obtain ⟨y8, hy8⟩ : ∃ l, z8.take len8 = l := ⟨_, rfl⟩
  rw [hy8] at Y8
  have HL8 : Hid (y8.length = len8) := Lib.hid Y8.out.1.1
  clear hy8
  obtain ⟨y9, hy9⟩ : ∃ l, z9.take len9 = l := ⟨_, rfl⟩
  rw [hy9] at Y9
  have HL9 : Hid (y9.length = len9) := Lib.hid Y9.out.1.1
  clear hy9
  obtain ⟨y5, hy5⟩ : ∃ l, z5.take len5 = l := ⟨_, rfl⟩
  rw [hy5] at R5
  clear hy5
  go_enter Try.func4, Try.ntmps4
  go_wp2_with fail
  refine (tknown_any _).mono ?_
  rintro e V1 ⟨rfl, hb⟩
  replace R2 := Lib.hid (R2.out.below hb)
  replace R3 := Lib.hid (R3.out.below hb)
  replace R4 := Lib.hid (R4.out.below hb)
  replace R5 := Lib.hid (R5.out.below hb)
  replace Y6 := Lib.hid (Y6.out.below hb)
  replace Y8 := Lib.hid (Y8.out.below hb)
  replace Y9 := Lib.hid (Y9.out.below hb)
  have HB := Lib.hid hb
  clear hb
  by_cases h8 : 60 < len8
  ·have h8' : (60 : Int) < (len8 : Int) := by omega
   go_wp2_with fail
   go_ret
   exact ⟨rfl, HB.out⟩
  have h8' : ¬ (60 : Int) < (len8 : Int) := by omega
  by_cases h9 : 300 < len9
  ·have h9' : (300 : Int) < (len9 : Int) := by omega
   go_wp2_with fail
   go_ret
   exact ⟨rfl, HB.out⟩
  have h9' : ¬ (300 : Int) < (len9 : Int) := by omega
  go_wp2_with fail
  refine (make_any R2.out R3.out R4.out a0 a1 HK.out HN.out).mono ?_
  rintro e V2 ⟨vc, vl, vbn, vbo, vfn, vfe, rfl, ht, hb⟩
  replace R5 := Lib.hid (R5.out.below hb)
  replace Y6 := Lib.hid (Y6.out.below hb)
  replace Y8 := Lib.hid (Y8.out.below hb)
  replace Y9 := Lib.hid (Y9.out.below hb)
  replace HB := Lib.hid (HB.out.trans (hb.mono HB.out.size))
  clear hb
  have hrt := lawTab_right (ns := (z2.take len2)) (ms := (z3.take len3)) (cs := (z4.take len4)) k0 (by omega) n0 (by omega)
  have hel := lawTab_len (ns := (z2.take len2)) (ms := (z3.take len3)) (cs := (z4.take len4)) k0 k9 n0 n9
  obtain ⟨tt, htt⟩ : ∃ t, lawTab (z2.take len2) (z3.take len3) (z4.take len4) k n = t := ⟨_, rfl⟩
  rw [htt] at ht hrt hel
  have HRt := Lib.hid hrt; have HEt := Lib.hid hel; have HTt := Lib.hid ht
  clear htt hrt hel ht R2 R3 R4
  go_wp2_with fail
  refine (rsave_any HTt.out HRt.out.intsT (Nat.le_trans HEt.out (by decide))).mono ?_
  rintro e V3 ⟨u, rfl, hu, hb⟩
  have HU := Lib.hid hu
  replace R5 := Lib.hid (R5.out.below hb)
  replace Y6 := Lib.hid (Y6.out.below hb)
  replace Y8 := Lib.hid (Y8.out.below hb)
  replace Y9 := Lib.hid (Y9.out.below hb)
  clear hu HTt
  replace HB := Lib.hid (HB.out.trans (hb.mono HB.out.size))
  clear hb
  rcases HU.out.form with ⟨-, e0⟩ | ⟨g7, c7, e7, hg7, hg7', lc7, lc7'⟩
  ·exact absurd (congrArg List.length e0) (by have := saveT_len tt; rw [List.length_nil]; omega)
  subst e7
  have hbyt := saveT_byte tt
  have hn79 := saveT_len tt
  have hne : 1 <= (enT tt).length := by unfold enT; rw [List.length_append, enN_len]; omega
  obtain ⟨e9, he9⟩ : ∃ q, (enT tt).length = q := ⟨_, rfl⟩
  have hel9 : e9 <= 10000 := by rw [<- he9]; exact HEt.out
  rw [he9] at hn79 hne
  obtain ⟨sv, hsv⟩ : ∃ l, saveT tt = l := ⟨_, rfl⟩
  rw [hsv] at HU hbyt hn79 lc7 ⊢
  obtain ⟨n7, hn7⟩ : ∃ n, sv.length = n := ⟨_, rfl⟩
  have HBY := Lib.hid (HU.out.bytes hbyt)
  rw [hn7] at HU HBY hn79 lc7 ⊢
  have HN7 := Lib.hid hn7; have HBYT := Lib.hid hbyt
  obtain ⟨m7, hm7⟩ : ∃ m, n7 - 8 = m := ⟨_, rfl⟩
  clear hn7 hsv hbyt he9
  unfold maxLen at lc7'
  have w1 : IntKind.i64.wrap ((n7 : Int) - 8) = (m7 : Int) := by rw [show (n7 : Int) - 8 = (m7 : Int) by omega]; exact IntWalk.i64_in _ (by omega)
  have w2 : (m7 : Int) <= (n7 : Int) := by omega
  have w3 : (m7 : Int) <= (c7 : Int) := by omega
  have w4 : m7 <= n7 := by omega
  have w5 : m7 <= c7 := by omega
  have w6 : (0 : Int) <= (m7 : Int) := Int.natCast_nonneg _
  have hmp : 0 < m7 := by omega
  have hm99 : m7 <= 80000 := by omega
  have hn88 : n7 <= 80008 := by omega
  have HNM : Hid (n7 = m7 + 8) := Lib.hid (by omega)
  have hpre := HBY.out.pre (k := m7) w4
  have hbob := byte_take HBYT.out m7
  have hbol : (sv.take m7).length = m7 := by rw [List.length_take, HN7.out]; omega
  obtain ⟨bo, hbo⟩ : ∃ l, sv.take m7 = l := ⟨_, rfl⟩
  rw [hbo] at hpre hbob hbol
  have HPRE := Lib.hid hpre; have HBOB := Lib.hid hbob; have HBOL := Lib.hid hbol
  clear hpre hbob hbol hbo hn79 hm7 hg7 hg7'
  have HOUT : Hid (BRow (V3.alloc (.cells #[] 5)) V3.heap.size (.slice (some ⟨V3.heap.size, 0, none⟩) 0 0) []) := Lib.hid (BRow.none_ V3)
  have HBA : Hid (Below V3.heap.size V3 (V3.alloc (.cells #[] 5))) := Lib.hid ((Below.refl _ _).alloc (Nat.le_refl _) _)
  have HYA := Lib.hid (HPRE.out.below HBA.out)
  go_wp2_with (at_builtin; refine wpList_concatB rfl (.tmp 49) (.tmp 54) rfl V3.heap.size (.slice (some ⟨V3.heap.size, 0, none⟩) 0 0) 0 [] (by rfl) HOUT.out (.slice (some ⟨g7, 0, none⟩) m7 c7) m7 bo (by rfl) HYA.out.1 (by omega) (by simp) ?_; intro v' W4 ho hg ha; have ho' : BRow W4 V3.heap.size v' bo := BRow.of_own ho (by rw [Nat.zero_add]; exact HBOL.out); have HBX : Hid (Below V3.heap.size V3 W4) := Lib.hid (HBA.out.grown hg (by simp) (fun q hq => by simp only [Value.ownBlock, Option.some.injEq] at hq; omega)); rcases ho'.form with ⟨-, e0⟩ | ⟨g8, c8, ev, hg8, hg9, lc8, lc8'⟩; exact absurd (congrArg List.length e0) (by rw [HBOL.out, List.length_nil]; omega); rw [HBOL.out] at ev lc8; subst ev; unfold maxLen at lc8'; have HI : Hid (ZRow V3 W4 V3.heap.size g8 m7 c8 bo) := Lib.hid ⟨ho', HBOL.out, HBOB.out, HBX.out⟩; have HG8 := Lib.hid hg8; clear ho hg ha ho' HOUT HBA HYA HBX hg8 hg9)
  clear HPRE
  go_loopw [23] (fun vi wr => ∃ (i : Nat) (l : List Int), vi = .int .i64 (i : Int) /\ i <= 3 /\ Hid (ZRow V3 wr V3.heap.size g8 m7 c8 l)) (fun vi _ => 3 - (intOf vi).toNat)
  case atStart => exact ⟨0, bo, rfl, Nat.zero_le _, HI⟩
  case round =>
   clear HI
   obtain ⟨i, l, rfl, hi, HI⟩ := hrel
   have i0 : (0 : Int) <= (i : Int) := Int.natCast_nonneg _
   by_cases hlt : i < len5 /\ i < len6 /\ i < 3
   ·obtain ⟨t5, t6, t3⟩ := hlt
    have t5' : (i : Int) < (len5 : Int) := by omega
    have t6' : (i : Int) < (len6 : Int) := by omega
    have t3' : (i : Int) < 3 := by omega
    obtain ⟨g5, o5, e5, -, ca⟩ := (R5.out.below HI.out.bel).at i t5
    subst e5
    obtain ⟨g6, o6, e6, cb, y01⟩ := (Y6.out.below HI.out.bel).at t6
    subst e6
    obtain ⟨x, hx⟩ : ∃ x, y5.getD i 0 = x := ⟨_, rfl⟩
    obtain ⟨y, hy⟩ : ∃ y, y6.getD i 0 = y := ⟨_, rfl⟩
    rw [hx] at ca
    rw [hy] at cb y01
    obtain ⟨y0, y1⟩ := y01
    clear hx hy
    obtain ⟨j, hj⟩ : ∃ j : Nat, x % (m7 : Int) = (j : Int) := ⟨(x % (m7 : Int)).toNat, by have := Int.emod_nonneg x (show (m7 : Int) ≠ 0 by omega); omega⟩
    have hjl : (j : Int) < (m7 : Int) := by rw [<- hj]; exact Int.emod_lt_of_pos _ (by omega)
    have j0 : (0 : Int) <= (j : Int) := Int.natCast_nonneg _
    have hjm : j < m7 := by omega
    have hlen := HI.out.len
    have hcz := BRow.cellAt (k := j) (l := l) (by have h := HI.out.o; rw [<- hlen] at h; exact h) (by omega)
    have hfz := BRow.frozenAt (l := l) (by have h := HI.out.o; rw [<- hlen] at h; exact h) j
    obtain ⟨z, hz⟩ : ∃ z, l.getD j 0 = z := ⟨_, rfl⟩
    rw [hz] at hcz
    have hzb : ByteI z := by rw [<- hz]; exact HI.out.byte _ (getD_mem (by omega))
    obtain ⟨zb0, zb1⟩ := hzb
    clear hz
    have HJ := Lib.hid hj
    have HLEN := Lib.hid hlen
    clear hlen hj
    go_wp2_with fail
    have hb : Below wr.heap.size wr wr.drew := (Below.refl _ _).drew
    have hS : (fun W : World => W.cell? ⟨g5, o5 + i, none⟩ = some (.int .i64 x) /\ W.cell? ⟨g6, o6 + i, none⟩ = some (.int .u8 y) /\ W.cell? ⟨g8, j, none⟩ = some (.int .u8 z)) wr.drew := ⟨ca, cb, hcz⟩
    have hfd : wr.drew.frozen? ⟨g8, j, none⟩ = false := hfz
    have HO1 := Lib.hid (HI.out.o.below hb)
    have HBL := Lib.hid (HI.out.bel.trans (hb.mono HI.out.bel.size))
    have HBYL := Lib.hid HI.out.byte
    clear ca cb hcz hfz hb HI
    refine region_x 16 (fun W : World => W.cell? ⟨g5, o5 + i, none⟩ = some (.int .i64 x) /\ W.cell? ⟨g6, o6 + i, none⟩ = some (.int .u8 y) /\ W.cell? ⟨g8, j, none⟩ = some (.int .u8 z)) (by kernel_rfl) ?_
    generalize wr.drew = V0 at *
    refine tkx (i := 0) (v := ?_) hS ?_ ?_
    rotate_left
    ·rintro w' ⟨s0', s1', s2'⟩
     go_simp
     try with_reducible rfl
    try simp only [Act.put, zq1, zq2, zq3, zq4, zq5, zq6]
    refine tkx (i := 1) (v := ?_) hS ?_ ?_
    rotate_left
    ·rintro w' ⟨s0', s1', s2'⟩
     go_simp
     try with_reducible rfl
    try simp only [Act.put, zq1, zq2, zq3, zq4, zq5, zq6]
    refine tkx (i := 2) (v := ?_) hS ?_ ?_
    rotate_left
    ·rintro w' ⟨s0', s1', s2'⟩
     go_simp
     try with_reducible rfl
    try simp only [Act.put, zq1, zq2, zq3, zq4, zq5, zq6]
    refine tkx (i := 3) (v := ?_) hS ?_ ?_
    rotate_left
    ·rintro w' ⟨s0', s1', s2'⟩
     go_simp
     try with_reducible rfl
    try simp only [Act.put, zq1, zq2, zq3, zq4, zq5, zq6]
    refine tkx (i := 4) (v := ?_) hS ?_ ?_
    rotate_left
    ·rintro w' ⟨s0', s1', s2'⟩
     go_simp
     try with_reducible rfl
    try simp only [Act.put, zq1, zq2, zq3, zq4, zq5, zq6]
    refine tkx (i := 5) (v := ?_) hS ?_ ?_
    rotate_left
    ·rintro w' ⟨s0', s1', s2'⟩
     go_simp
     try with_reducible rfl
    try simp only [Act.put, zq1, zq2, zq3, zq4, zq5, zq6]
    refine tkx (i := 6) (v := ?_) hS ?_ ?_
    rotate_left
    ·rintro w' ⟨s0', s1', s2'⟩
     go_simp
     try with_reducible rfl
    try simp only [Act.put, zq1, zq2, zq3, zq4, zq5, zq6]
    refine tkx (i := 10) (v := ?_) hS ?_ ?_
    rotate_left
    ·rintro w' ⟨s0', s1', s2'⟩
     go_simp
     try with_reducible rfl
    try simp only [Act.put, zq1, zq2, zq3, zq4, zq5, zq6]
    refine tkx (i := 11) (v := ?_) hS ?_ ?_
    rotate_left
    ·rintro w' ⟨s0', s1', s2'⟩
     go_simp
     try with_reducible rfl
    try simp only [Act.put, zq1, zq2, zq3, zq4, zq5, zq6]
    refine tkx (i := 12) (v := ?_) hS ?_ ?_
    rotate_left
    ·rintro w' ⟨s0', s1', s2'⟩
     go_simp
     try with_reducible rfl
    try simp only [Act.put, zq1, zq2, zq3, zq4, zq5, zq6]
    refine tkx (i := 13) (v := ?_) hS ?_ ?_
    rotate_left
    ·rintro w' ⟨s0', s1', s2'⟩
     go_simp
     try with_reducible rfl
    try simp only [Act.put, zq1, zq2, zq3, zq4, zq5, zq6]
    refine anyX_g (i := 7) (by kernel_rfl) (by decide) rfl (by rfl) ?_
    intro K hK
    try simp only [zq1, zq2, zq3]
    refine wp_enterE #[.int .i64 x, .int .i64 (m7 : Int)] Try.func19 (by kernel_rfl) (by kernel_rfl) ?_ (twithin2_any x (m7 : Int) (by omega) (by omega) _) ?_
    ·go_simp
    rintro e V1 ⟨rfl, hV⟩
    subst V1
    rw [HJ.out]
    refine ⟨_, rfl, ?_⟩
    refine hK _ _ hS ?_
    clear hK
    try simp only [Act.put, zq1, zq2, zq3, zq4, zq5, zq6]
    refine tkx (i := 8) (v := ?_) hS ?_ ?_
    rotate_left
    ·rintro w' ⟨s0', s1', s2'⟩
     go_simp
     try with_reducible rfl
    try simp only [Act.put, zq1, zq2, zq3, zq4, zq5, zq6]
    refine tkx (i := 9) (v := ?_) hS ?_ ?_
    rotate_left
    ·rintro w' ⟨s0', s1', s2'⟩
     go_simp
     try with_reducible rfl
    try simp only [Act.put, zq1, zq2, zq3, zq4, zq5, zq6]
    refine tkx (i := 14) (v := ?_) hS ?_ ?_
    rotate_left
    ·rintro w' ⟨s0', s1', s2'⟩
     go_simp
     try with_reducible rfl
    try simp only [Act.put, zq1, zq2, zq3, zq4, zq5, zq6]
    refine tkx (i := 15) (v := ?_) hS ?_ ?_
    rotate_left
    ·rintro w' ⟨s0', s1', s2'⟩
     go_simp
     try with_reducible rfl
    try simp only [Act.put, zq1, zq2, zq3, zq4, zq5, zq6]
    obtain ⟨-, -, hcz⟩ := hS
    refine anyX_last (by kernel_rfl) (by kernel_rfl) rfl rfl ?_
    try simp only [zq1, zq2, zq3]
    go_simp
    try apply_assumption
    go_wp2_with fail
    refine ⟨⟨i + 1, l.set j ((z + y) % 256), by go_num, by omega, Lib.hid ⟨HO1.out.setAt2 HLEN.out j _, by rw [List.length_set]; exact HLEN.out, ?_, HBL.out.setCell (p := ⟨g8, j, none⟩) HG8.out _⟩⟩, by simp [intOf]; omega⟩
    intro q hq
    rcases List.mem_or_eq_of_mem_set hq with h | h
    ·exact HBYL.out q h
    ·subst h; unfold ByteI; omega
   ·have t1 : (decide (i < len5) = false /\ (len5 : Int) <= (i : Int)) \/ (decide (i < len5) = true /\ (i : Int) < (len5 : Int) /\ decide (i < len6) = false /\ (len6 : Int) <= (i : Int)) \/ (decide (i < len5) = true /\ (i : Int) < (len5 : Int) /\ decide (i < len6) = true /\ (i : Int) < (len6 : Int) /\ decide (i < 3) = false /\ 3 <= (i : Int)) := by
     by_cases h : i < len5
     ·by_cases h2 : i < len6
      ·have h3 : ¬ i < 3 := fun e => hlt ⟨h, h2, e⟩
       exact .inr (.inr ⟨by simpa using h, by omega, by simpa using h2, by omega, by simpa using h3, by omega⟩)
      ·exact .inr (.inl ⟨by simpa using h, by omega, by simpa using h2, by omega⟩)
     ·exact .inl ⟨by simpa using h, by omega⟩
    have T1 := Lib.hid t1
    clear hlt t1
    rcases T1.out with ⟨t1, t2⟩ | ⟨t1, t2, t3, t4⟩ | ⟨t1, t2, t3, t4, t5, t6⟩
    all_goals
     clear T1
     go_wp2_with fail
     clear t1 t2
     try clear t3 t4
     try clear t5 t6
     refine wp_forget 56 fun u56 => ?_
     refine wp_forget 57 fun u57 => ?_
     refine wp_forget 58 fun u58 => ?_
     refine wp_forget 59 fun u59 => ?_
     refine wp_forget 60 fun u60 => ?_
     refine wp_forget 61 fun u61 => ?_
     refine wp_forget 62 fun u62 => ?_
     refine wp_forget 63 fun u63 => ?_
     refine wp_forget 64 fun u64 => ?_
     refine wp_forget 65 fun u65 => ?_
     refine wp_forget 66 fun u66 => ?_
     refine wp_forget 67 fun u67 => ?_
     refine wp_forget 68 fun u68 => ?_
     refine wp_forget 69 fun u69 => ?_
     dsimp only [List.set_cons_succ, List.set_cons_zero]
     revert u56 u57 u58 u59 u60 u61 u62 u63 u64 u65 u66 u67 u68 u69
    rename_i Q1 K1 a1 K2 a2
    rotate_left
    rename_i Q1 K1 a1 K2 a2
    rotate_left
    rename_i Q1 K1 a1 h1 K2 a2
    clear h1
    rotate_left
    all_goals revert Q1 K1 a1 K2 a2
    refine ?REST
    rotate_left
    exact ?REST
    exact ?REST
    intro kq1 kk1 ka1 kk2 ka2 u56 u57 u58 u59 u60 u61 u62 u63 u64 u65 u66 u67 u68 u69
    have HBY3 := Lib.hid (HBY.out.below HI.out.bel)
    replace Y8 := Lib.hid (Y8.out.below HI.out.bel)
    replace Y9 := Lib.hid (Y9.out.below HI.out.bel)
    replace HB := Lib.hid (HB.out.trans (HI.out.bel.mono HB.out.size))
    have HZ := Lib.hid (HI.out.o.bytes HI.out.byte)
    rw [HI.out.len] at HZ
    have HZL := Lib.hid HI.out.len; have HZB := Lib.hid HI.out.byte
    clear HI Y6 R5 HU HBY
    obtain ⟨W5, hW5⟩ : ∃ W, W = wr := ⟨_, rfl⟩
    rw [<- hW5] at HBY3 Y8 Y9 HB HZ ⊢
    clear hW5 hi i0
    have HBY := HBY3
    clear HBY3
    have v1 : ¬ c7 = m7 := by have := HNM.out; omega
    have v2 : n7 - m7 = 8 := by have := HNM.out; omega
    obtain ⟨c78, hc78⟩ : ∃ c, c7 - m7 = c := ⟨_, rfl⟩
    have hdr := HBY.out.dropB (k := m7) w4
    have hsdl : (sv.drop m7).length = 8 := by rw [List.length_drop, HN7.out]; omega
    have hsdb : ∀ x ∈ sv.drop m7, ByteI x := fun x hx => HBYT.out x (List.mem_of_mem_drop hx)
    obtain ⟨sd, hsd⟩ : ∃ l, sv.drop m7 = l := ⟨_, rfl⟩
    rw [hsd, v2, hc78, Nat.zero_add] at hdr
    rw [hsd] at hsdl hsdb
    have HDR := Lib.hid hdr; have HSDL := Lib.hid hsdl; have HSDB := Lib.hid hsdb
    clear hdr hsdl hsdb hsd
    have hb : Below W5.heap.size W5 W5.drew := (Below.refl _ _).drew
    replace HBY := Lib.hid (HBY.out.below hb)
    replace HZ := Lib.hid (HZ.out.below hb)
    replace Y8 := Lib.hid (Y8.out.below hb)
    replace Y9 := Lib.hid (Y9.out.below hb)
    replace HDR := Lib.hid (HDR.out.below hb)
    replace HB := Lib.hid (HB.out.trans (hb.mono HB.out.size))
    clear hb
    refine region_x 9 (fun _ => True) (by kernel_rfl) ?_
    have hS : True := trivial
    generalize W5.drew = V0 at *
    refine tkx (i := 1) (v := ?_) hS ?_ ?_
    rotate_left
    ·rintro w' -
     go_simp
     try with_reducible rfl
    try simp only [Act.put, zq1, zq2, zq3, zq4, zq5, zq6]
    refine tkx (i := 3) (v := ?_) hS ?_ ?_
    rotate_left
    ·rintro w' -
     go_simp
     try with_reducible rfl
    try simp only [Act.put, zq1, zq2, zq3, zq4, zq5, zq6]
    refine tkx (i := 4) (v := ?_) hS ?_ ?_
    rotate_left
    ·rintro w' -
     go_simp
     try with_reducible rfl
    try simp only [Act.put, zq1, zq2, zq3, zq4, zq5, zq6]
    refine tkx (i := 5) (v := ?_) hS ?_ ?_
    rotate_left
    ·rintro w' -
     go_simp
     try with_reducible rfl
    try simp only [Act.put, zq1, zq2, zq3, zq4, zq5, zq6]
    refine tkx (i := 6) (v := ?_) hS ?_ ?_
    rotate_left
    ·rintro w' -
     go_simp
     try with_reducible rfl
    try simp only [Act.put, zq1, zq2, zq3, zq4, zq5, zq6]
    refine tkx (i := 7) (v := ?_) hS ?_ ?_
    rotate_left
    ·rintro w' -
     go_simp
     try with_reducible rfl
    try simp only [Act.put, zq1, zq2, zq3, zq4, zq5, zq6]
    refine anyX_g (i := 0) (by kernel_rfl) (by decide) rfl (by rfl) ?_
    intro K hK
    try simp only [zq1, zq2, zq3]
    go_simp
    obtain ⟨V1, eV⟩ : ∃ W', V0.alloc (.cells #[] 5) = W' := ⟨_, rfl⟩
    have HO : Hid (BRow V1 V0.heap.size (.slice (some ⟨V0.heap.size, 0, none⟩) 0 0) []) := Lib.hid (by rw [<- eV]; exact BRow.none_ _)
    have HBR : Hid (Below V0.heap.size V0 V1) := Lib.hid (by rw [<- eV]; exact (Below.refl _ _).alloc (Nat.le_refl _) _)
    rw [eV]
    clear eV
    refine hK _ _ hS ?_
    clear hK
    try simp only [Act.put, zq1, zq2, zq3, zq4, zq5, zq6]
    refine anyX_g (i := 2) (by kernel_rfl) (by decide) rfl (by rfl) ?_
    intro K hK
    try simp only [zq1, zq2, zq3]
    refine wp_concatB rfl (.tmp 88) (.tmp 89) rfl V0.heap.size (.slice (some ⟨V0.heap.size, 0, none⟩) 0 0) (0) ([]) (by rfl) HO.out (.slice (some ⟨g8, 0, none⟩) m7 c8) (m7) (l) (by rfl) (HZ.out.below HBR.out).1 (by have := HZL.out; omega) HBR.out.size ?_
    intro v' V2 ho hg ha
    have ho' : BRow V2 V0.heap.size v' (l) := BRow.of_own (by first | exact ho | (rw [List.nil_append] at ho; exact ho)) (by first | exact HZL.out | (rw [Nat.zero_add]; exact HZL.out))
    have hlt := HO.out.lt
    replace HBR : Hid (Below V0.heap.size V0 V2) := Lib.hid (HBR.out.grown hg HBR.out.size (fun q hq => (hlt q hq).1))
    obtain ⟨A9, c9, ev, _, _⟩ := ho'.slice
    rw [show (l).length = m7 from by first | exact HZL.out | (rw [Nat.zero_add]; exact HZL.out)] at ev
    subst ev
    replace HO := Lib.hid ho'
    clear ho hg ha ho' hlt
    refine hK _ _ hS ?_
    clear hK
    try simp only [Act.put, zq1, zq2, zq3, zq4, zq5, zq6]
    refine anyX_g (i := 8) (by kernel_rfl) (by decide) rfl (by rfl) ?_
    intro K hK
    try simp only [zq1, zq2, zq3]
    refine wp_concatB rfl (.tmp 90) (.tmp 95) rfl V0.heap.size (.slice A9 m7 c9) (l.length) (l) (by rfl) HO.out (.slice (some ⟨g7, m7, none⟩) 8 c78) (8) (sd) (by rfl) (HDR.out.below HBR.out).1 (by have := HZL.out; omega) HBR.out.size ?_
    intro v' V4 ho hg ha
    have ho' : BRow V4 V0.heap.size v' (l ++ sd) := BRow.of_own (by first | exact ho | (rw [List.nil_append] at ho; exact ho)) (by rw [List.length_append, HZL.out, HSDL.out]; try exact HNM.out.symm)
    have hlt := HO.out.lt
    replace HBR : Hid (Below V0.heap.size V0 V4) := Lib.hid (HBR.out.grown hg HBR.out.size (fun q hq => (hlt q hq).1))
    obtain ⟨A10, c10, ev, _, _⟩ := ho'.slice
    rw [show (l ++ sd).length = n7 from by rw [List.length_append, HZL.out, HSDL.out]; try exact HNM.out.symm] at ev
    subst ev
    replace HO := Lib.hid ho'
    clear ho hg ha ho' hlt
    refine hK _ _ hS ?_
    clear hK
    try simp only [Act.put, zq1, zq2, zq3, zq4, zq5, zq6]
    refine anyX_last (by kernel_rfl) (by kernel_rfl) rfl rfl ?_
    try simp only [zq1, zq2, zq3]
    go_simp
    try apply_assumption
    have hb := HBR.out
    replace HBY := Lib.hid (HBY.out.below hb)
    replace HZ := Lib.hid (HZ.out.below hb)
    replace Y8 := Lib.hid (Y8.out.below hb)
    replace Y9 := Lib.hid (Y9.out.below hb)
    replace HB := Lib.hid (HB.out.trans (hb.mono HB.out.size))
    have HY := Lib.hid (HO.out.bytes (byte_app HZB.out HSDB.out))
    rw [List.length_append, HZL.out, HSDL.out, <- HNM.out] at HY
    obtain ⟨ly, hly⟩ : ∃ q, l ++ sd = q := ⟨_, rfl⟩
    rw [hly] at HY
    clear hb HBR HO HDR HSDL HSDB hly hS v1 v2 hc78
    go_wp2_with fail
    refine (twithin2_any a7 ((n7 : Int) + 1) (by omega) (by omega) V4).mono ?_
    rintro e V4' ⟨rfl, hV⟩
    subst V4'
    obtain ⟨j, hj⟩ : ∃ j : Nat, a7 % ((n7 : Int) + 1) = (j : Int) := ⟨(a7 % ((n7 : Int) + 1)).toNat, by have := Int.emod_nonneg a7 (show (n7 : Int) + 1 ≠ 0 by omega); omega⟩
    have hjl : (j : Int) <= (n7 : Int) := by have := Int.emod_lt_of_pos a7 (show (0 : Int) < (n7 : Int) + 1 by omega); omega
    rw [hj]
    clear hj
    have j0 : (0 : Int) <= (j : Int) := Int.natCast_nonneg _
    have j1 : j <= n7 := by omega
    have j2 : j <= c7 := by omega
    have j3 : (j : Int) <= (c7 : Int) := by omega
    go_wp2_with fail
    have hb : Below V4.heap.size V4 V4.drew := (Below.refl _ _).drew
    replace HBY := Lib.hid (HBY.out.below hb)
    replace HZ := Lib.hid (HZ.out.below hb)
    replace HY := Lib.hid (HY.out.below hb)
    replace Y8 := Lib.hid (Y8.out.below hb)
    replace Y9 := Lib.hid (Y9.out.below hb)
    replace HB := Lib.hid (HB.out.trans (hb.mono HB.out.size))
    clear hb
    refine region_x 25 (fun _ => True) (by kernel_rfl) ?_
    have hS : True := trivial
    generalize V4.drew = V5 at *
    obtain ⟨A15, hA15⟩ : ∃ A, (if c7 = j then some ⟨g7, 0, none⟩ else some ⟨g7, j, none⟩ : Option Addr) = A := ⟨_, rfl⟩
    have hkp := HBY.out.pre (k := j) j1
    have hlk : (sv.take j).length = j := by rw [List.length_take, HN7.out]; omega
    obtain ⟨lk, hlke⟩ : ∃ l, sv.take j = l := ⟨_, rfl⟩
    rw [hlke] at hkp hlk
    have hkd : BytesR V5 (.slice A15 (n7 - j) (c7 - j)) (n7 - j) (sv.drop j) := by
     by_cases hck : c7 = j
     ·have e1 : sv.drop j = [] := List.drop_eq_nil_of_le (by rw [HN7.out]; omega)
      have e2 : n7 - j = 0 := by omega
      have e3 : c7 - j = 0 := by omega
      rw [e1, e2, e3]
      exact ⟨⟨rfl, A15, 0, rfl, Nat.le_refl _, Nat.zero_le _, fun _ => rfl, fun i x hi => by simp at hi⟩, fun x hx => by simp at hx⟩
     ·rw [<- hA15, if_neg hck]
      have := HBY.out.dropB (k := j) j1
      rwa [Nat.zero_add] at this
    have hld : (sv.drop j).length = n7 - j := by rw [List.length_drop, HN7.out]
    obtain ⟨ld, hlde⟩ : ∃ l, sv.drop j = l := ⟨_, rfl⟩
    rw [hlde] at hkd hld
    have HKP := Lib.hid hkp; have HKD := Lib.hid hkd; have HLK := Lib.hid hlk; have HLD := Lib.hid hld; have HA15 := Lib.hid hA15
    clear hkp hkd hlk hld hlke hlde hA15
    refine tkx (i := 0) (v := ?_) hS ?_ ?_
    rotate_left
    ·rintro w' -
     go_simp
     try with_reducible rfl
    try simp only [Act.put, zq1, zq2, zq3, zq4, zq5, zq6]
    refine tkx (i := 2) (v := ?_) hS ?_ ?_
    rotate_left
    ·rintro w' -
     go_simp
     try with_reducible rfl
    try simp only [Act.put, zq1, zq2, zq3, zq4, zq5, zq6]
    refine tkx (i := 3) (v := ?_) hS ?_ ?_
    rotate_left
    ·rintro w' -
     go_simp
     try with_reducible rfl
    try simp only [Act.put, zq1, zq2, zq3, zq4, zq5, zq6]
    refine tkx (i := 4) (v := ?_) hS ?_ ?_
    rotate_left
    ·rintro w' -
     go_simp
     try with_reducible rfl
    try simp only [Act.put, zq1, zq2, zq3, zq4, zq5, zq6]
    refine tkx (i := 5) (v := ?_) hS ?_ ?_
    rotate_left
    ·rintro w' -
     go_simp
     try with_reducible rfl
    try simp only [Act.put, zq1, zq2, zq3, zq4, zq5, zq6]
    refine tkx (i := 7) (v := ?_) hS ?_ ?_
    rotate_left
    ·rintro w' -
     go_simp
     try with_reducible rfl
    try simp only [Act.put, zq1, zq2, zq3, zq4, zq5, zq6]
    refine tkx (i := 8) (v := ?_) hS ?_ ?_
    rotate_left
    ·rintro w' -
     go_simp
     try with_reducible rfl
    try simp only [Act.put, zq1, zq2, zq3, zq4, zq5, zq6]
    refine tkx (i := 9) (v := ?_) hS ?_ ?_
    rotate_left
    ·rintro w' -
     go_simp
     try with_reducible rfl
    try simp only [Act.put, zq1, zq2, zq3, zq4, zq5, zq6]
    refine tkx (i := 11) (v := ?_) hS ?_ ?_
    rotate_left
    ·rintro w' -
     go_simp
     try with_reducible rfl
    try simp only [Act.put, zq1, zq2, zq3, zq4, zq5, zq6]
    refine tkx (i := 13) (v := ?_) hS ?_ ?_
    rotate_left
    ·rintro w' -
     go_simp
     try with_reducible rfl
    try simp only [Act.put, zq1, zq2, zq3, zq4, zq5, zq6]
    refine tkx (i := 14) (v := ?_) hS ?_ ?_
    rotate_left
    ·rintro w' -
     go_simp
     try with_reducible rfl
    try simp only [Act.put, zq1, zq2, zq3, zq4, zq5, zq6]
    refine tkx (i := 15) (v := .slice A15 (n7 - j) (c7 - j)) hS ?_ ?_
    ·rintro w' -
     rw [<- HA15.out]
     by_cases hck : c7 = j
     ·subst hck
      go_simp
      try with_reducible rfl
     ·go_simp
      try with_reducible rfl
    try simp only [Act.put, zq1, zq2, zq3, zq4, zq5, zq6]
    refine tkx (i := 17) (v := ?_) hS ?_ ?_
    rotate_left
    ·rintro w' -
     go_simp
     try with_reducible rfl
    try simp only [Act.put, zq1, zq2, zq3, zq4, zq5, zq6]
    refine tkx (i := 18) (v := ?_) hS ?_ ?_
    rotate_left
    ·rintro w' -
     go_simp
     try with_reducible rfl
    try simp only [Act.put, zq1, zq2, zq3, zq4, zq5, zq6]
    refine tkx (i := 20) (v := ?_) hS ?_ ?_
    rotate_left
    ·rintro w' -
     go_simp
     try with_reducible rfl
    try simp only [Act.put, zq1, zq2, zq3, zq4, zq5, zq6]
    refine tkx (i := 21) (v := ?_) hS ?_ ?_
    rotate_left
    ·rintro w' -
     go_simp
     try with_reducible rfl
    try simp only [Act.put, zq1, zq2, zq3, zq4, zq5, zq6]
    refine tkx (i := 22) (v := ?_) hS ?_ ?_
    rotate_left
    ·rintro w' -
     go_simp
     try with_reducible rfl
    try simp only [Act.put, zq1, zq2, zq3, zq4, zq5, zq6]
    refine anyX_two2 (i := 1) (j := 6) (by kernel_rfl) (by decide) (by decide) rfl rfl rfl rfl ?_ ?_
    ·intro K hK
     try simp only [zq1, zq2, zq3]
     refine wp_enterE #[.slice (some ⟨g8, 0, none⟩) m7 c8] Try.func20 (by kernel_rfl) (by kernel_rfl) ?_ (summed_any HZ.out (by omega)) ?_
     ·go_simp
     rintro e V6 ⟨u0, rfl, ho, hb⟩
     obtain ⟨U0, uc0, ev, _, _⟩ := ho.slice
     rw [show (l ++ be8 (sumI l)).length = m7 + 8 from by rw [List.length_append, be8_len, HZL.out]] at ev
     subst ev
     refine ⟨_, rfl, ?_⟩
     replace HBY := Lib.hid (HBY.out.below hb)
     replace HZ := Lib.hid (HZ.out.below hb)
     replace HY := Lib.hid (HY.out.below hb)
     replace Y8 := Lib.hid (Y8.out.below hb)
     replace Y9 := Lib.hid (Y9.out.below hb)
     replace HKP := Lib.hid (HKP.out.below hb)
     replace HKD := Lib.hid (HKD.out.below hb)
     have HU0 := Lib.hid ho
     replace HB := Lib.hid (HB.out.trans (hb.mono HB.out.size))
     clear hb
     clear ho
     refine hK _ _ hS ?_
     clear hK
     try simp only [Act.put, zq1, zq2, zq3, zq4, zq5, zq6]
     refine anyX_g (i := 6) (by kernel_rfl) (by decide) rfl (by rfl) ?_
     intro K hK
     try simp only [zq1, zq2, zq3]
     go_simp
     obtain ⟨V7, eV⟩ : ∃ W', V6.alloc (.cells #[] 5) = W' := ⟨_, rfl⟩
     have HO : Hid (BRow V7 V6.heap.size (.slice (some ⟨V6.heap.size, 0, none⟩) 0 0) []) := Lib.hid (by rw [<- eV]; exact BRow.none_ _)
     have HBR : Hid (Below V6.heap.size V6 V7) := Lib.hid (by rw [<- eV]; exact (Below.refl _ _).alloc (Nat.le_refl _) _)
     rw [eV]
     clear eV
     have APHU0 : Hid (Value.ownBlock (.slice U0 (m7 + 8) uc0) = none \/ Value.ownBlock (.slice U0 (m7 + 8) uc0) ≠ some V6.heap.size) := Lib.hid (by
      cases hz : Value.ownBlock (.slice U0 (m7 + 8) uc0) with
      | none => exact .inl rfl
      | some z => exact .inr (fun e2 => by have := (HU0.out.lt z hz).2; cases e2; omega))
     replace HU0 := Lib.hid (HU0.out.below HBR.out)
     refine hK _ _ hS ?_
     clear hK
     try simp only [Act.put, zq1, zq2, zq3, zq4, zq5, zq6]
     refine anyX_g (i := 10) (by kernel_rfl) (by decide) rfl (by rfl) ?_
     intro K hK
     try simp only [zq1, zq2, zq3]
     refine wp_concatB rfl (.tmp 108) (.tmp 111) rfl V6.heap.size (.slice (some ⟨V6.heap.size, 0, none⟩) 0 0) (0) ([]) (by rfl) HO.out (.slice (some ⟨g7, 0, none⟩) j c7) (j) (lk) (by rfl) (HKP.out.below HBR.out).1 (by omega) HBR.out.size ?_
     intro v' V8 ho hg ha
     have ho' : BRow V8 V6.heap.size v' (lk) := BRow.of_own (by first | exact ho | (rw [List.nil_append] at ho; exact ho)) (by first | exact HLK.out | (rw [Nat.zero_add]; exact HLK.out))
     have hlt := HO.out.lt
     have hkHU0 : BRow V8 V5.heap.size (.slice U0 (m7 + 8) uc0) _ := OwnE.kept HU0.out hg (APHU0.out.imp id (fun h e => h e))
     have APHU0' : Hid (Value.ownBlock (.slice U0 (m7 + 8) uc0) = none \/ Value.ownBlock (.slice U0 (m7 + 8) uc0) ≠ v'.ownBlock) := Lib.hid (by
      rcases APHU0.out with h | h
      ·exact .inl h
      ·rcases ha with e | e
       ·rw [e]; exact .inr h
       ·rw [e]
        cases hz : Value.ownBlock (.slice U0 (m7 + 8) uc0) with
        | none => exact .inl rfl
        | some z => exact .inr (fun e2 => by have := (HU0.out.lt z hz).2; cases e2; omega))
     replace HU0 := Lib.hid hkHU0
     clear hkHU0
     replace HBR : Hid (Below V6.heap.size V6 V8) := Lib.hid (HBR.out.grown hg HBR.out.size (fun q hq => (hlt q hq).1))
     obtain ⟨A11, c11, ev, _, _⟩ := ho'.slice
     rw [show (lk).length = j from by first | exact HLK.out | (rw [Nat.zero_add]; exact HLK.out)] at ev
     subst ev
     replace APHU0 := APHU0'
     clear APHU0'
     replace HO := Lib.hid ho'
     clear ho hg ha ho' hlt
     refine hK _ _ hS ?_
     clear hK
     try simp only [Act.put, zq1, zq2, zq3, zq4, zq5, zq6]
     refine anyX_g (i := 12) (by kernel_rfl) (by decide) rfl (by rfl) ?_
     intro K hK
     try simp only [zq1, zq2, zq3]
     refine wp_concatB rfl (.tmp 112) (.tmp 113) rfl V6.heap.size (.slice A11 j c11) (lk.length) (lk) (by rfl) HO.out (.slice a8 len8 cap8) (len8) (y8) (by rfl) (Y8.out.below HBR.out).1 (by rw [HLK.out]; omega) HBR.out.size ?_
     intro v' V9 ho hg ha
     have ho' : BRow V9 V6.heap.size v' (lk ++ y8) := BRow.of_own (by first | exact ho | (rw [List.nil_append] at ho; exact ho)) (by rw [List.length_append, HLK.out, HL8.out])
     have hlt := HO.out.lt
     have hkHU0 : BRow V9 V5.heap.size (.slice U0 (m7 + 8) uc0) _ := OwnE.kept HU0.out hg (APHU0.out.imp id (fun h e => h e))
     have APHU0' : Hid (Value.ownBlock (.slice U0 (m7 + 8) uc0) = none \/ Value.ownBlock (.slice U0 (m7 + 8) uc0) ≠ v'.ownBlock) := Lib.hid (by
      rcases APHU0.out with h | h
      ·exact .inl h
      ·rcases ha with e | e
       ·rw [e]; exact .inr h
       ·rw [e]
        cases hz : Value.ownBlock (.slice U0 (m7 + 8) uc0) with
        | none => exact .inl rfl
        | some z => exact .inr (fun e2 => by have := (HU0.out.lt z hz).2; cases e2; omega))
     replace HU0 := Lib.hid hkHU0
     clear hkHU0
     replace HBR : Hid (Below V6.heap.size V6 V9) := Lib.hid (HBR.out.grown hg HBR.out.size (fun q hq => (hlt q hq).1))
     obtain ⟨A12, c12, ev, _, _⟩ := ho'.slice
     rw [show (lk ++ y8).length = j + len8 from by rw [List.length_append, HLK.out, HL8.out]] at ev
     subst ev
     replace APHU0 := APHU0'
     clear APHU0'
     replace HO := Lib.hid ho'
     clear ho hg ha ho' hlt
     refine hK _ _ hS ?_
     clear hK
     try simp only [Act.put, zq1, zq2, zq3, zq4, zq5, zq6]
     refine anyX_g (i := 16) (by kernel_rfl) (by decide) rfl (by rfl) ?_
     intro K hK
     try simp only [zq1, zq2, zq3]
     refine wp_concatB rfl (.tmp 114) (.tmp 117) rfl V6.heap.size (.slice A12 (j + len8) c12) ((lk ++ y8).length) (lk ++ y8) (by rfl) HO.out (.slice A15 (n7 - j) (c7 - j)) (n7 - j) (ld) (by rfl) (HKD.out.below HBR.out).1 (by rw [List.length_append, HLK.out, HL8.out]; omega) HBR.out.size ?_
     intro v' V10 ho hg ha
     have ho' : BRow V10 V6.heap.size v' (lk ++ y8 ++ ld) := BRow.of_own (by first | exact ho | (rw [List.nil_append] at ho; exact ho)) (by rw [List.length_append, List.length_append, HLK.out, HL8.out, HLD.out])
     have hlt := HO.out.lt
     have hkHU0 : BRow V10 V5.heap.size (.slice U0 (m7 + 8) uc0) _ := OwnE.kept HU0.out hg (APHU0.out.imp id (fun h e => h e))
     have APHU0' : Hid (Value.ownBlock (.slice U0 (m7 + 8) uc0) = none \/ Value.ownBlock (.slice U0 (m7 + 8) uc0) ≠ v'.ownBlock) := Lib.hid (by
      rcases APHU0.out with h | h
      ·exact .inl h
      ·rcases ha with e | e
       ·rw [e]; exact .inr h
       ·rw [e]
        cases hz : Value.ownBlock (.slice U0 (m7 + 8) uc0) with
        | none => exact .inl rfl
        | some z => exact .inr (fun e2 => by have := (HU0.out.lt z hz).2; cases e2; omega))
     replace HU0 := Lib.hid hkHU0
     clear hkHU0
     replace HBR : Hid (Below V6.heap.size V6 V10) := Lib.hid (HBR.out.grown hg HBR.out.size (fun q hq => (hlt q hq).1))
     obtain ⟨A13, c13, ev, _, _⟩ := ho'.slice
     rw [show (lk ++ y8 ++ ld).length = j + len8 + (n7 - j) from by rw [List.length_append, List.length_append, HLK.out, HL8.out, HLD.out]] at ev
     subst ev
     replace APHU0 := APHU0'
     clear APHU0'
     replace HO := Lib.hid ho'
     clear ho hg ha ho' hlt
     refine hK _ _ hS ?_
     clear hK
     try simp only [Act.put, zq1, zq2, zq3, zq4, zq5, zq6]
     have hb := HBR.out
     replace HBY := Lib.hid (HBY.out.below hb)
     replace HZ := Lib.hid (HZ.out.below hb)
     replace HY := Lib.hid (HY.out.below hb)
     replace Y8 := Lib.hid (Y8.out.below hb)
     replace Y9 := Lib.hid (Y9.out.below hb)
     replace HKP := Lib.hid (HKP.out.below hb)
     replace HKD := Lib.hid (HKD.out.below hb)
     replace HB := Lib.hid (HB.out.trans (hb.mono HB.out.size))
     clear hb HBR APHU0
     refine anyX_g (i := 19) (by kernel_rfl) (by decide) rfl (by rfl) ?_
     intro K hK
     try simp only [zq1, zq2, zq3]
     refine wp_enterE #[.slice a9 len9 cap9] Try.func20 (by kernel_rfl) (by kernel_rfl) ?_ (summed_any Y9.out (by omega)) ?_
     ·go_simp
     rintro e V11 ⟨u5, rfl, ho, hb⟩
     obtain ⟨U5, uc5, ev, _, _⟩ := ho.slice
     rw [show (y9 ++ be8 (sumI y9)).length = len9 + 8 from by rw [List.length_append, be8_len, HL9.out]] at ev
     subst ev
     refine ⟨_, rfl, ?_⟩
     replace HU0 := Lib.hid (HU0.out.below hb)
     replace HO := Lib.hid (HO.out.below hb)
     replace HBY := Lib.hid (HBY.out.below hb)
     replace HZ := Lib.hid (HZ.out.below hb)
     replace HY := Lib.hid (HY.out.below hb)
     replace Y8 := Lib.hid (Y8.out.below hb)
     replace Y9 := Lib.hid (Y9.out.below hb)
     replace HKP := Lib.hid (HKP.out.below hb)
     replace HKD := Lib.hid (HKD.out.below hb)
     have HU5 := Lib.hid ho
     replace HB := Lib.hid (HB.out.trans (hb.mono HB.out.size))
     clear hb
     clear ho
     refine hK _ _ hS ?_
     clear hK
     try simp only [Act.put, zq1, zq2, zq3, zq4, zq5, zq6]
     refine anyX_g (i := 23) (by kernel_rfl) (by decide) rfl (by rfl) ?_
     intro K hK
     try simp only [zq1, zq2, zq3]
     refine wp_enterE #[.slice (some ⟨g7, 0, none⟩) j c7] Try.func20 (by kernel_rfl) (by kernel_rfl) ?_ (summed_any HKP.out (by omega)) ?_
     ·go_simp
     rintro e V12 ⟨u6, rfl, ho, hb⟩
     obtain ⟨U6, uc6, ev, _, _⟩ := ho.slice
     rw [show (lk ++ be8 (sumI lk)).length = j + 8 from by rw [List.length_append, be8_len, HLK.out]] at ev
     subst ev
     refine ⟨_, rfl, ?_⟩
     replace HU0 := Lib.hid (HU0.out.below hb)
     replace HO := Lib.hid (HO.out.below hb)
     replace HBY := Lib.hid (HBY.out.below hb)
     replace HZ := Lib.hid (HZ.out.below hb)
     replace HY := Lib.hid (HY.out.below hb)
     replace Y8 := Lib.hid (Y8.out.below hb)
     replace Y9 := Lib.hid (Y9.out.below hb)
     replace HKP := Lib.hid (HKP.out.below hb)
     replace HKD := Lib.hid (HKD.out.below hb)
     replace HU5 := Lib.hid (HU5.out.below hb)
     have HU6 := Lib.hid ho
     replace HB := Lib.hid (HB.out.trans (hb.mono HB.out.size))
     clear hb
     clear ho
     refine hK _ _ hS ?_
     clear hK
     try simp only [Act.put, zq1, zq2, zq3, zq4, zq5, zq6]
     refine anyX_g (i := 24) (by kernel_rfl) (by decide) rfl (by rfl) ?_
     intro K hK
     try simp only [zq1, zq2, zq3]
     go_simp
     obtain ⟨V13, eV⟩ : ∃ W', V12.alloc (.cells #[.slice U0 (m7 + 8) uc0, .slice A10 n7 c10, .slice (some ⟨g7, 0, none⟩) j c7, .slice A13 (j + len8 + (n7 - j)) c13, .slice a9 len9 cap9, .slice U5 (len9 + 8) uc5, .slice U6 (j + 8) uc6] 34) = W' := ⟨_, rfl⟩
     obtain ⟨gr, hgr⟩ : ∃ p, V12.heap.size = p := ⟨_, rfl⟩
     have XR : Hid (Blk V13 gr 34 #[.slice U0 (m7 + 8) uc0, .slice A10 n7 c10, .slice (some ⟨g7, 0, none⟩) j c7, .slice A13 (j + len8 + (n7 - j)) c13, .slice a9 len9 cap9, .slice U5 (len9 + 8) uc5, .slice U6 (j + 8) uc6]) := Lib.hid (by rw [<- eV]; exact Blk.newAt _ hgr _ _)
     have hb : Below V12.heap.size V12 V13 := by rw [<- eV]; exact (Below.refl _ _).alloc (Nat.le_refl _) _
     replace HU0 := Lib.hid (HU0.out.below hb)
     replace HO := Lib.hid (HO.out.below hb)
     replace HBY := Lib.hid (HBY.out.below hb)
     replace HZ := Lib.hid (HZ.out.below hb)
     replace HY := Lib.hid (HY.out.below hb)
     replace Y8 := Lib.hid (Y8.out.below hb)
     replace Y9 := Lib.hid (Y9.out.below hb)
     replace HKP := Lib.hid (HKP.out.below hb)
     replace HKD := Lib.hid (HKD.out.below hb)
     replace HU5 := Lib.hid (HU5.out.below hb)
     replace HU6 := Lib.hid (HU6.out.below hb)
     replace HB := Lib.hid (HB.out.trans (hb.mono HB.out.size))
     clear hb
     rw [eV, hgr]
     clear eV hgr
     refine hK _ _ hS ?_
     clear hK
     try simp only [Act.put, zq1, zq2, zq3, zq4, zq5, zq6]
     clear hS
     refine anyX_last (by kernel_rfl) (by kernel_rfl) rfl rfl ?_
     try simp only [zq1, zq2, zq3]
     go_simp
     try apply_assumption
     have HROWS : Hid (∀ i, i < 7 -> ∃ (A : Option Addr) (n c : Nat) (q : List Int), V13.cell? ⟨gr, i, none⟩ = some (.slice A n c) /\ BytesR V13 (.slice A n c) n q /\ n <= 8000000) := Lib.hid (fun i hi => by
      have x := XR.out.cell i
      rcases (show i = 0 \/ i = 1 \/ i = 2 \/ i = 3 \/ i = 4 \/ i = 5 \/ i = 6 by omega) with rfl | rfl | rfl | rfl | rfl | rfl | rfl
      ·exact ⟨_, _, _, _, x, byR HU0.out (byte_app HZB.out (be8_byte _)) (by rw [List.length_append, be8_len, HZL.out]), by omega⟩
      ·exact ⟨_, _, _, _, x, HY.out, by omega⟩
      ·exact ⟨_, _, _, _, x, HKP.out, by omega⟩
      ·exact ⟨_, _, _, _, x, byR HO.out (byte_app (byte_app HKP.out.2 Y8.out.2) HKD.out.2) (by rw [List.length_append, List.length_append, HLK.out, HL8.out, HLD.out]), by omega⟩
      ·exact ⟨_, _, _, _, x, Y9.out, by omega⟩
      ·exact ⟨_, _, _, _, x, byR HU5.out (byte_app Y9.out.2 (be8_byte _)) (by rw [List.length_append, be8_len, HL9.out]), by omega⟩
      ·exact ⟨_, _, _, _, x, byR HU6.out (byte_app HKP.out.2 (be8_byte _)) (by rw [List.length_append, be8_len, HLK.out]), by omega⟩)
     clear XR HU0 HY HKP HO HU5 HU6 HKD HBY HZ Y8 Y9
     go_wp2_with fail
     go_loopw [27] (fun vi wr => ∃ i : Nat, vi = .int .i64 (i : Int) /\ i <= 7 /\ Hid (Below V13.heap.size V13 wr)) (fun vi _ => 7 - (intOf vi).toNat)
     case atStart => exact ⟨0, rfl, Nat.zero_le _, Lib.hid (Below.refl _ _)⟩
     case round =>
      obtain ⟨i, rfl, hi, HBW⟩ := hrel
      have i0 : (0 : Int) <= (i : Int) := Int.natCast_nonneg _
      by_cases hlt : i < 7
      ·have i1 : (i : Int) < 7 := by omega
       obtain ⟨RA, rn, rc, rl, hcl, hby, hrn⟩ := HROWS.out i hlt
       have hc0 : wr.cell? ⟨gr, i, none⟩ = some (.slice RA rn rc) := bel_m HBW.out hcl
       have HBYR := Lib.hid (hby.below HBW.out)
       have HCL := Lib.hid hc0
       replace HB := Lib.hid (HB.out.trans (HBW.out.mono HB.out.size))
       have HWR := HBW
       clear hcl hby HROWS
       go_wp2_with fail
       clear hc0
       refine (tload_told HBYR.out hrn).mono ?_
       rintro e W1 ⟨hte, hb⟩
       unfold ToldE at hte
       obtain ⟨A0p, A1p, A2p, A3p, A4p, A5p, n0p, n1p, n2p, n3p, n4p, n5p, c0p, c1p, c2p, c3p, c4p, c5p, isp, tp, rfl, htp, htr⟩ := hte
       replace HBYR := Lib.hid (HBYR.out.below hb)
       replace HCL := Lib.hid (bel_m hb HCL.out)
       replace HWR := Lib.hid (HWR.out.trans (hb.mono HWR.out.size))
       have HPp := Lib.hid htp; have HTp := Lib.hid htr
       replace HB := Lib.hid (HB.out.trans (hb.mono HB.out.size))
       clear hb
       clear htp htr
       obtain ⟨bp, hbe⟩ : ∃ b, W1.heap.size = b := ⟨_, rfl⟩
       obtain ⟨W2, hW⟩ : ∃ W, W1.alloc (.cells #[.slice A0p n0p c0p, .slice A1p n1p c1p, .slice A2p n2p c2p, .slice A3p n3p c3p, .slice A4p n4p c4p, .slice A5p n5p c5p] 31) = W := ⟨_, rfl⟩
       have hb : Below W1.heap.size W1 W2 := by rw [<- hW]; exact (Below.refl _ _).alloc (Nat.le_refl _) _
       have Xp : Hid (Blk W2 bp 31 #[.slice A0p n0p c0p, .slice A1p n1p c1p, .slice A2p n2p c2p, .slice A3p n3p c3p, .slice A4p n4p c4p, .slice A5p n5p c5p]) := Lib.hid (by rw [<- hW]; exact Blk.newAt _ hbe _ _)
       replace HBYR := Lib.hid (HBYR.out.below hb)
       replace HCL := Lib.hid (bel_m hb HCL.out)
       replace HWR := Lib.hid (HWR.out.trans (hb.mono HWR.out.size))
       replace HTp := Lib.hid (HTp.out.below hb)
       replace HB := Lib.hid (HB.out.trans (hb.mono HB.out.size))
       clear hb
       have HWp := Lib.hid hW; have HBEp := Lib.hid hbe
       clear hW hbe
       have hc0 := HCL.out
       rw [<- HWp.out] at hc0
       go_wp2_with fail
       rw [HWp.out]
       try simp only [HBEp.out]
       clear hc0
       refine (rload_told HBYR.out).mono ?_
       rintro e W3 ⟨hte, hb⟩
       unfold ToldE at hte
       obtain ⟨A0q, A1q, A2q, A3q, A4q, A5q, n0q, n1q, n2q, n3q, n4q, n5q, c0q, c1q, c2q, c3q, c4q, c5q, isq, tq, rfl, htp, htr⟩ := hte
       replace HBYR := Lib.hid (HBYR.out.below hb)
       replace HCL := Lib.hid (bel_m hb HCL.out)
       replace HWR := Lib.hid (HWR.out.trans (hb.mono HWR.out.size))
       replace HTp := Lib.hid (HTp.out.below hb)
       replace Xp := Lib.hid (Blk.below Xp.out hb Xp.out.lt)
       have HPq := Lib.hid htp; have HTq := Lib.hid htr
       replace HB := Lib.hid (HB.out.trans (hb.mono HB.out.size))
       clear hb
       clear htp htr
       obtain ⟨bq, hbe⟩ : ∃ b, W3.heap.size = b := ⟨_, rfl⟩
       obtain ⟨W4, hW⟩ : ∃ W, W3.alloc (.cells #[.slice A0q n0q c0q, .slice A1q n1q c1q, .slice A2q n2q c2q, .slice A3q n3q c3q, .slice A4q n4q c4q, .slice A5q n5q c5q] 31) = W := ⟨_, rfl⟩
       have hb : Below W3.heap.size W3 W4 := by rw [<- hW]; exact (Below.refl _ _).alloc (Nat.le_refl _) _
       have Xq : Hid (Blk W4 bq 31 #[.slice A0q n0q c0q, .slice A1q n1q c1q, .slice A2q n2q c2q, .slice A3q n3q c3q, .slice A4q n4q c4q, .slice A5q n5q c5q]) := Lib.hid (by rw [<- hW]; exact Blk.newAt _ hbe _ _)
       replace HBYR := Lib.hid (HBYR.out.below hb)
       replace HCL := Lib.hid (bel_m hb HCL.out)
       replace HWR := Lib.hid (HWR.out.trans (hb.mono HWR.out.size))
       replace HTp := Lib.hid (HTp.out.below hb)
       replace Xp := Lib.hid (Blk.below Xp.out hb Xp.out.lt)
       replace HTq := Lib.hid (HTq.out.below hb)
       replace HB := Lib.hid (HB.out.trans (hb.mono HB.out.size))
       clear hb
       have HWq := Lib.hid hW; have HBEq := Lib.hid hbe
       clear hW hbe
       obtain ⟨hq1, hq2⟩ := HPp.out.uniq HPq.out
       subst isq
       subst tq
       have HIT := Lib.hid HPp.out.ints; have HLT := Lib.hid (HPp.out.len (by have := HBYR.out.1.1; omega))
       have k0p := Xp.out.cell 0
       have k1p := Xp.out.cell 1
       have k2p := Xp.out.cell 2
       have k3p := Xp.out.cell 3
       have k4p := Xp.out.cell 4
       have k5p := Xp.out.cell 5
       have k0q := Xq.out.cell 0
       have k1q := Xq.out.cell 1
       have k2q := Xq.out.cell 2
       have k3q := Xq.out.cell 3
       have k4q := Xq.out.cell 4
       have k5q := Xq.out.cell 5
       simp only [List.getElem?_toArray, List.getElem?_cons_zero, List.getElem?_cons_succ] at k0p k0q k1p k1q k2p k2q k3p k3q k4p k4q k5p k5q
       rw [<- HWq.out] at k0p k0q k1p k1q k2p k2q k3p k3q k4p k4q k5p k5q
       rw [<- HBEq.out] at k0q k1q k2q k3q k4q k5q
       have hxx : (isp != isp) = false := by cases isp <;> rfl
       go_wp2_with fail
       rw [HWq.out]
       clear k0p k0q k1p k1q k2p k2q k3p k3q k4p k4q k5p k5q
       refine (rsame_any HTp.out HTq.out HIT.out HIT.out HLT.out HLT.out (r := true) ⟨fun _ => rfl, fun _ => rfl⟩).mono ?_
       rintro e W5' ⟨rfl, hb⟩
       replace HWR := Lib.hid (HWR.out.trans (hb.mono HWR.out.size))
       clear hb
       go_wp2_with fail
       exact ⟨⟨i + 1, by go_num, by omega, HWR⟩, by simp [intOf]; omega⟩
      ·obtain rfl : i = 7 := by omega
       go_wp2_with fail
       go_ret
       exact ⟨rfl, HB.out.trans (HBW.out.mono HB.out.size)⟩
    ·intro K hK
     try simp only [zq1, zq2, zq3]
     go_simp
     obtain ⟨V6, eV⟩ : ∃ W', V5.alloc (.cells #[] 5) = W' := ⟨_, rfl⟩
     have HO : Hid (BRow V6 V5.heap.size (.slice (some ⟨V5.heap.size, 0, none⟩) 0 0) []) := Lib.hid (by rw [<- eV]; exact BRow.none_ _)
     have HBR : Hid (Below V5.heap.size V5 V6) := Lib.hid (by rw [<- eV]; exact (Below.refl _ _).alloc (Nat.le_refl _) _)
     rw [eV]
     clear eV
     refine hK _ _ hS ?_
     clear hK
     try simp only [Act.put, zq1, zq2, zq3, zq4, zq5, zq6]
     refine anyX_g (i := 1) (by kernel_rfl) (by decide) rfl (by rfl) ?_
     intro K hK
     try simp only [zq1, zq2, zq3]
     refine wp_enterE #[.slice (some ⟨g8, 0, none⟩) m7 c8] Try.func20 (by kernel_rfl) (by kernel_rfl) ?_ (summed_any (HZ.out.below HBR.out) (by omega)) ?_
     ·go_simp
     rintro e V7 ⟨u0, rfl, ho, hb⟩
     obtain ⟨U0, uc0, ev, _, _⟩ := ho.slice
     rw [show (l ++ be8 (sumI l)).length = m7 + 8 from by rw [List.length_append, be8_len, HZL.out]] at ev
     subst ev
     refine ⟨_, rfl, ?_⟩
     have APHU0 : Hid (Value.ownBlock (.slice U0 (m7 + 8) uc0) = none \/ Value.ownBlock (.slice U0 (m7 + 8) uc0) ≠ some V5.heap.size) := Lib.hid (by
      cases hz : Value.ownBlock (.slice U0 (m7 + 8) uc0) with
      | none => exact .inl rfl
      | some z => exact .inr (fun e2 => by have h1 := (ho.lt z hz).1; have h2 : V5.heap.size < V6.heap.size := (HO.out.lt _ rfl).2; cases e2; omega))
     have HU0 : Hid (BRow V7 V5.heap.size (.slice U0 (m7 + 8) uc0) _) := Lib.hid (ho.more HBR.out.size)
     replace HO := Lib.hid (HO.out.below hb)
     replace HBR : Hid (Below V5.heap.size V5 V7) := Lib.hid (HBR.out.trans (hb.mono HBR.out.size))
     clear ho hb
     refine hK _ _ hS ?_
     clear hK
     try simp only [Act.put, zq1, zq2, zq3, zq4, zq5, zq6]
     refine anyX_g (i := 10) (by kernel_rfl) (by decide) rfl (by rfl) ?_
     intro K hK
     try simp only [zq1, zq2, zq3]
     refine wp_concatB rfl (.tmp 108) (.tmp 111) rfl V5.heap.size (.slice (some ⟨V5.heap.size, 0, none⟩) 0 0) (0) ([]) (by rfl) HO.out (.slice (some ⟨g7, 0, none⟩) j c7) (j) (lk) (by rfl) (HKP.out.below HBR.out).1 (by omega) HBR.out.size ?_
     intro v' V8 ho hg ha
     have ho' : BRow V8 V5.heap.size v' (lk) := BRow.of_own (by first | exact ho | (rw [List.nil_append] at ho; exact ho)) (by first | exact HLK.out | (rw [Nat.zero_add]; exact HLK.out))
     have hlt := HO.out.lt
     have hkHU0 : BRow V8 V5.heap.size (.slice U0 (m7 + 8) uc0) _ := OwnE.kept HU0.out hg (APHU0.out.imp id (fun h e => h e))
     have APHU0' : Hid (Value.ownBlock (.slice U0 (m7 + 8) uc0) = none \/ Value.ownBlock (.slice U0 (m7 + 8) uc0) ≠ v'.ownBlock) := Lib.hid (by
      rcases APHU0.out with h | h
      ·exact .inl h
      ·rcases ha with e | e
       ·rw [e]; exact .inr h
       ·rw [e]
        cases hz : Value.ownBlock (.slice U0 (m7 + 8) uc0) with
        | none => exact .inl rfl
        | some z => exact .inr (fun e2 => by have := (HU0.out.lt z hz).2; cases e2; omega))
     replace HU0 := Lib.hid hkHU0
     clear hkHU0
     replace HBR : Hid (Below V5.heap.size V5 V8) := Lib.hid (HBR.out.grown hg HBR.out.size (fun q hq => (hlt q hq).1))
     obtain ⟨A11, c11, ev, _, _⟩ := ho'.slice
     rw [show (lk).length = j from by first | exact HLK.out | (rw [Nat.zero_add]; exact HLK.out)] at ev
     subst ev
     replace APHU0 := APHU0'
     clear APHU0'
     replace HO := Lib.hid ho'
     clear ho hg ha ho' hlt
     refine hK _ _ hS ?_
     clear hK
     try simp only [Act.put, zq1, zq2, zq3, zq4, zq5, zq6]
     refine anyX_g (i := 12) (by kernel_rfl) (by decide) rfl (by rfl) ?_
     intro K hK
     try simp only [zq1, zq2, zq3]
     refine wp_concatB rfl (.tmp 112) (.tmp 113) rfl V5.heap.size (.slice A11 j c11) (lk.length) (lk) (by rfl) HO.out (.slice a8 len8 cap8) (len8) (y8) (by rfl) (Y8.out.below HBR.out).1 (by rw [HLK.out]; omega) HBR.out.size ?_
     intro v' V9 ho hg ha
     have ho' : BRow V9 V5.heap.size v' (lk ++ y8) := BRow.of_own (by first | exact ho | (rw [List.nil_append] at ho; exact ho)) (by rw [List.length_append, HLK.out, HL8.out])
     have hlt := HO.out.lt
     have hkHU0 : BRow V9 V5.heap.size (.slice U0 (m7 + 8) uc0) _ := OwnE.kept HU0.out hg (APHU0.out.imp id (fun h e => h e))
     have APHU0' : Hid (Value.ownBlock (.slice U0 (m7 + 8) uc0) = none \/ Value.ownBlock (.slice U0 (m7 + 8) uc0) ≠ v'.ownBlock) := Lib.hid (by
      rcases APHU0.out with h | h
      ·exact .inl h
      ·rcases ha with e | e
       ·rw [e]; exact .inr h
       ·rw [e]
        cases hz : Value.ownBlock (.slice U0 (m7 + 8) uc0) with
        | none => exact .inl rfl
        | some z => exact .inr (fun e2 => by have := (HU0.out.lt z hz).2; cases e2; omega))
     replace HU0 := Lib.hid hkHU0
     clear hkHU0
     replace HBR : Hid (Below V5.heap.size V5 V9) := Lib.hid (HBR.out.grown hg HBR.out.size (fun q hq => (hlt q hq).1))
     obtain ⟨A12, c12, ev, _, _⟩ := ho'.slice
     rw [show (lk ++ y8).length = j + len8 from by rw [List.length_append, HLK.out, HL8.out]] at ev
     subst ev
     replace APHU0 := APHU0'
     clear APHU0'
     replace HO := Lib.hid ho'
     clear ho hg ha ho' hlt
     refine hK _ _ hS ?_
     clear hK
     try simp only [Act.put, zq1, zq2, zq3, zq4, zq5, zq6]
     refine anyX_g (i := 16) (by kernel_rfl) (by decide) rfl (by rfl) ?_
     intro K hK
     try simp only [zq1, zq2, zq3]
     refine wp_concatB rfl (.tmp 114) (.tmp 117) rfl V5.heap.size (.slice A12 (j + len8) c12) ((lk ++ y8).length) (lk ++ y8) (by rfl) HO.out (.slice A15 (n7 - j) (c7 - j)) (n7 - j) (ld) (by rfl) (HKD.out.below HBR.out).1 (by rw [List.length_append, HLK.out, HL8.out]; omega) HBR.out.size ?_
     intro v' V10 ho hg ha
     have ho' : BRow V10 V5.heap.size v' (lk ++ y8 ++ ld) := BRow.of_own (by first | exact ho | (rw [List.nil_append] at ho; exact ho)) (by rw [List.length_append, List.length_append, HLK.out, HL8.out, HLD.out])
     have hlt := HO.out.lt
     have hkHU0 : BRow V10 V5.heap.size (.slice U0 (m7 + 8) uc0) _ := OwnE.kept HU0.out hg (APHU0.out.imp id (fun h e => h e))
     have APHU0' : Hid (Value.ownBlock (.slice U0 (m7 + 8) uc0) = none \/ Value.ownBlock (.slice U0 (m7 + 8) uc0) ≠ v'.ownBlock) := Lib.hid (by
      rcases APHU0.out with h | h
      ·exact .inl h
      ·rcases ha with e | e
       ·rw [e]; exact .inr h
       ·rw [e]
        cases hz : Value.ownBlock (.slice U0 (m7 + 8) uc0) with
        | none => exact .inl rfl
        | some z => exact .inr (fun e2 => by have := (HU0.out.lt z hz).2; cases e2; omega))
     replace HU0 := Lib.hid hkHU0
     clear hkHU0
     replace HBR : Hid (Below V5.heap.size V5 V10) := Lib.hid (HBR.out.grown hg HBR.out.size (fun q hq => (hlt q hq).1))
     obtain ⟨A13, c13, ev, _, _⟩ := ho'.slice
     rw [show (lk ++ y8 ++ ld).length = j + len8 + (n7 - j) from by rw [List.length_append, List.length_append, HLK.out, HL8.out, HLD.out]] at ev
     subst ev
     replace APHU0 := APHU0'
     clear APHU0'
     replace HO := Lib.hid ho'
     clear ho hg ha ho' hlt
     refine hK _ _ hS ?_
     clear hK
     try simp only [Act.put, zq1, zq2, zq3, zq4, zq5, zq6]
     have hb := HBR.out
     replace HBY := Lib.hid (HBY.out.below hb)
     replace HZ := Lib.hid (HZ.out.below hb)
     replace HY := Lib.hid (HY.out.below hb)
     replace Y8 := Lib.hid (Y8.out.below hb)
     replace Y9 := Lib.hid (Y9.out.below hb)
     replace HKP := Lib.hid (HKP.out.below hb)
     replace HKD := Lib.hid (HKD.out.below hb)
     replace HB := Lib.hid (HB.out.trans (hb.mono HB.out.size))
     clear hb HBR APHU0
     refine anyX_g (i := 19) (by kernel_rfl) (by decide) rfl (by rfl) ?_
     intro K hK
     try simp only [zq1, zq2, zq3]
     refine wp_enterE #[.slice a9 len9 cap9] Try.func20 (by kernel_rfl) (by kernel_rfl) ?_ (summed_any Y9.out (by omega)) ?_
     ·go_simp
     rintro e V11 ⟨u5, rfl, ho, hb⟩
     obtain ⟨U5, uc5, ev, _, _⟩ := ho.slice
     rw [show (y9 ++ be8 (sumI y9)).length = len9 + 8 from by rw [List.length_append, be8_len, HL9.out]] at ev
     subst ev
     refine ⟨_, rfl, ?_⟩
     replace HU0 := Lib.hid (HU0.out.below hb)
     replace HO := Lib.hid (HO.out.below hb)
     replace HBY := Lib.hid (HBY.out.below hb)
     replace HZ := Lib.hid (HZ.out.below hb)
     replace HY := Lib.hid (HY.out.below hb)
     replace Y8 := Lib.hid (Y8.out.below hb)
     replace Y9 := Lib.hid (Y9.out.below hb)
     replace HKP := Lib.hid (HKP.out.below hb)
     replace HKD := Lib.hid (HKD.out.below hb)
     have HU5 := Lib.hid ho
     replace HB := Lib.hid (HB.out.trans (hb.mono HB.out.size))
     clear hb
     clear ho
     refine hK _ _ hS ?_
     clear hK
     try simp only [Act.put, zq1, zq2, zq3, zq4, zq5, zq6]
     refine anyX_g (i := 23) (by kernel_rfl) (by decide) rfl (by rfl) ?_
     intro K hK
     try simp only [zq1, zq2, zq3]
     refine wp_enterE #[.slice (some ⟨g7, 0, none⟩) j c7] Try.func20 (by kernel_rfl) (by kernel_rfl) ?_ (summed_any HKP.out (by omega)) ?_
     ·go_simp
     rintro e V12 ⟨u6, rfl, ho, hb⟩
     obtain ⟨U6, uc6, ev, _, _⟩ := ho.slice
     rw [show (lk ++ be8 (sumI lk)).length = j + 8 from by rw [List.length_append, be8_len, HLK.out]] at ev
     subst ev
     refine ⟨_, rfl, ?_⟩
     replace HU0 := Lib.hid (HU0.out.below hb)
     replace HO := Lib.hid (HO.out.below hb)
     replace HBY := Lib.hid (HBY.out.below hb)
     replace HZ := Lib.hid (HZ.out.below hb)
     replace HY := Lib.hid (HY.out.below hb)
     replace Y8 := Lib.hid (Y8.out.below hb)
     replace Y9 := Lib.hid (Y9.out.below hb)
     replace HKP := Lib.hid (HKP.out.below hb)
     replace HKD := Lib.hid (HKD.out.below hb)
     replace HU5 := Lib.hid (HU5.out.below hb)
     have HU6 := Lib.hid ho
     replace HB := Lib.hid (HB.out.trans (hb.mono HB.out.size))
     clear hb
     clear ho
     refine hK _ _ hS ?_
     clear hK
     try simp only [Act.put, zq1, zq2, zq3, zq4, zq5, zq6]
     refine anyX_g (i := 24) (by kernel_rfl) (by decide) rfl (by rfl) ?_
     intro K hK
     try simp only [zq1, zq2, zq3]
     go_simp
     obtain ⟨V13, eV⟩ : ∃ W', V12.alloc (.cells #[.slice U0 (m7 + 8) uc0, .slice A10 n7 c10, .slice (some ⟨g7, 0, none⟩) j c7, .slice A13 (j + len8 + (n7 - j)) c13, .slice a9 len9 cap9, .slice U5 (len9 + 8) uc5, .slice U6 (j + 8) uc6] 34) = W' := ⟨_, rfl⟩
     obtain ⟨gr, hgr⟩ : ∃ p, V12.heap.size = p := ⟨_, rfl⟩
     have XR : Hid (Blk V13 gr 34 #[.slice U0 (m7 + 8) uc0, .slice A10 n7 c10, .slice (some ⟨g7, 0, none⟩) j c7, .slice A13 (j + len8 + (n7 - j)) c13, .slice a9 len9 cap9, .slice U5 (len9 + 8) uc5, .slice U6 (j + 8) uc6]) := Lib.hid (by rw [<- eV]; exact Blk.newAt _ hgr _ _)
     have hb : Below V12.heap.size V12 V13 := by rw [<- eV]; exact (Below.refl _ _).alloc (Nat.le_refl _) _
     replace HU0 := Lib.hid (HU0.out.below hb)
     replace HO := Lib.hid (HO.out.below hb)
     replace HBY := Lib.hid (HBY.out.below hb)
     replace HZ := Lib.hid (HZ.out.below hb)
     replace HY := Lib.hid (HY.out.below hb)
     replace Y8 := Lib.hid (Y8.out.below hb)
     replace Y9 := Lib.hid (Y9.out.below hb)
     replace HKP := Lib.hid (HKP.out.below hb)
     replace HKD := Lib.hid (HKD.out.below hb)
     replace HU5 := Lib.hid (HU5.out.below hb)
     replace HU6 := Lib.hid (HU6.out.below hb)
     replace HB := Lib.hid (HB.out.trans (hb.mono HB.out.size))
     clear hb
     rw [eV, hgr]
     clear eV hgr
     refine hK _ _ hS ?_
     clear hK
     try simp only [Act.put, zq1, zq2, zq3, zq4, zq5, zq6]
     clear hS
     refine anyX_last (by kernel_rfl) (by kernel_rfl) rfl rfl ?_
     try simp only [zq1, zq2, zq3]
     go_simp
     try apply_assumption
     have HROWS : Hid (∀ i, i < 7 -> ∃ (A : Option Addr) (n c : Nat) (q : List Int), V13.cell? ⟨gr, i, none⟩ = some (.slice A n c) /\ BytesR V13 (.slice A n c) n q /\ n <= 8000000) := Lib.hid (fun i hi => by
      have x := XR.out.cell i
      rcases (show i = 0 \/ i = 1 \/ i = 2 \/ i = 3 \/ i = 4 \/ i = 5 \/ i = 6 by omega) with rfl | rfl | rfl | rfl | rfl | rfl | rfl
      ·exact ⟨_, _, _, _, x, byR HU0.out (byte_app HZB.out (be8_byte _)) (by rw [List.length_append, be8_len, HZL.out]), by omega⟩
      ·exact ⟨_, _, _, _, x, HY.out, by omega⟩
      ·exact ⟨_, _, _, _, x, HKP.out, by omega⟩
      ·exact ⟨_, _, _, _, x, byR HO.out (byte_app (byte_app HKP.out.2 Y8.out.2) HKD.out.2) (by rw [List.length_append, List.length_append, HLK.out, HL8.out, HLD.out]), by omega⟩
      ·exact ⟨_, _, _, _, x, Y9.out, by omega⟩
      ·exact ⟨_, _, _, _, x, byR HU5.out (byte_app Y9.out.2 (be8_byte _)) (by rw [List.length_append, be8_len, HL9.out]), by omega⟩
      ·exact ⟨_, _, _, _, x, byR HU6.out (byte_app HKP.out.2 (be8_byte _)) (by rw [List.length_append, be8_len, HLK.out]), by omega⟩)
     clear XR HU0 HY HKP HO HU5 HU6 HKD HBY HZ Y8 Y9
     go_wp2_with fail
     go_loopw [27] (fun vi wr => ∃ i : Nat, vi = .int .i64 (i : Int) /\ i <= 7 /\ Hid (Below V13.heap.size V13 wr)) (fun vi _ => 7 - (intOf vi).toNat)
     case atStart => exact ⟨0, rfl, Nat.zero_le _, Lib.hid (Below.refl _ _)⟩
     case round =>
      obtain ⟨i, rfl, hi, HBW⟩ := hrel
      have i0 : (0 : Int) <= (i : Int) := Int.natCast_nonneg _
      by_cases hlt : i < 7
      ·have i1 : (i : Int) < 7 := by omega
       obtain ⟨RA, rn, rc, rl, hcl, hby, hrn⟩ := HROWS.out i hlt
       have hc0 : wr.cell? ⟨gr, i, none⟩ = some (.slice RA rn rc) := bel_m HBW.out hcl
       have HBYR := Lib.hid (hby.below HBW.out)
       have HCL := Lib.hid hc0
       replace HB := Lib.hid (HB.out.trans (HBW.out.mono HB.out.size))
       have HWR := HBW
       clear hcl hby HROWS
       go_wp2_with fail
       clear hc0
       refine (tload_told HBYR.out hrn).mono ?_
       rintro e W1 ⟨hte, hb⟩
       unfold ToldE at hte
       obtain ⟨A0p, A1p, A2p, A3p, A4p, A5p, n0p, n1p, n2p, n3p, n4p, n5p, c0p, c1p, c2p, c3p, c4p, c5p, isp, tp, rfl, htp, htr⟩ := hte
       replace HBYR := Lib.hid (HBYR.out.below hb)
       replace HCL := Lib.hid (bel_m hb HCL.out)
       replace HWR := Lib.hid (HWR.out.trans (hb.mono HWR.out.size))
       have HPp := Lib.hid htp; have HTp := Lib.hid htr
       replace HB := Lib.hid (HB.out.trans (hb.mono HB.out.size))
       clear hb
       clear htp htr
       obtain ⟨bp, hbe⟩ : ∃ b, W1.heap.size = b := ⟨_, rfl⟩
       obtain ⟨W2, hW⟩ : ∃ W, W1.alloc (.cells #[.slice A0p n0p c0p, .slice A1p n1p c1p, .slice A2p n2p c2p, .slice A3p n3p c3p, .slice A4p n4p c4p, .slice A5p n5p c5p] 31) = W := ⟨_, rfl⟩
       have hb : Below W1.heap.size W1 W2 := by rw [<- hW]; exact (Below.refl _ _).alloc (Nat.le_refl _) _
       have Xp : Hid (Blk W2 bp 31 #[.slice A0p n0p c0p, .slice A1p n1p c1p, .slice A2p n2p c2p, .slice A3p n3p c3p, .slice A4p n4p c4p, .slice A5p n5p c5p]) := Lib.hid (by rw [<- hW]; exact Blk.newAt _ hbe _ _)
       replace HBYR := Lib.hid (HBYR.out.below hb)
       replace HCL := Lib.hid (bel_m hb HCL.out)
       replace HWR := Lib.hid (HWR.out.trans (hb.mono HWR.out.size))
       replace HTp := Lib.hid (HTp.out.below hb)
       replace HB := Lib.hid (HB.out.trans (hb.mono HB.out.size))
       clear hb
       have HWp := Lib.hid hW; have HBEp := Lib.hid hbe
       clear hW hbe
       have hc0 := HCL.out
       rw [<- HWp.out] at hc0
       go_wp2_with fail
       rw [HWp.out]
       try simp only [HBEp.out]
       clear hc0
       refine (rload_told HBYR.out).mono ?_
       rintro e W3 ⟨hte, hb⟩
       unfold ToldE at hte
       obtain ⟨A0q, A1q, A2q, A3q, A4q, A5q, n0q, n1q, n2q, n3q, n4q, n5q, c0q, c1q, c2q, c3q, c4q, c5q, isq, tq, rfl, htp, htr⟩ := hte
       replace HBYR := Lib.hid (HBYR.out.below hb)
       replace HCL := Lib.hid (bel_m hb HCL.out)
       replace HWR := Lib.hid (HWR.out.trans (hb.mono HWR.out.size))
       replace HTp := Lib.hid (HTp.out.below hb)
       replace Xp := Lib.hid (Blk.below Xp.out hb Xp.out.lt)
       have HPq := Lib.hid htp; have HTq := Lib.hid htr
       replace HB := Lib.hid (HB.out.trans (hb.mono HB.out.size))
       clear hb
       clear htp htr
       obtain ⟨bq, hbe⟩ : ∃ b, W3.heap.size = b := ⟨_, rfl⟩
       obtain ⟨W4, hW⟩ : ∃ W, W3.alloc (.cells #[.slice A0q n0q c0q, .slice A1q n1q c1q, .slice A2q n2q c2q, .slice A3q n3q c3q, .slice A4q n4q c4q, .slice A5q n5q c5q] 31) = W := ⟨_, rfl⟩
       have hb : Below W3.heap.size W3 W4 := by rw [<- hW]; exact (Below.refl _ _).alloc (Nat.le_refl _) _
       have Xq : Hid (Blk W4 bq 31 #[.slice A0q n0q c0q, .slice A1q n1q c1q, .slice A2q n2q c2q, .slice A3q n3q c3q, .slice A4q n4q c4q, .slice A5q n5q c5q]) := Lib.hid (by rw [<- hW]; exact Blk.newAt _ hbe _ _)
       replace HBYR := Lib.hid (HBYR.out.below hb)
       replace HCL := Lib.hid (bel_m hb HCL.out)
       replace HWR := Lib.hid (HWR.out.trans (hb.mono HWR.out.size))
       replace HTp := Lib.hid (HTp.out.below hb)
       replace Xp := Lib.hid (Blk.below Xp.out hb Xp.out.lt)
       replace HTq := Lib.hid (HTq.out.below hb)
       replace HB := Lib.hid (HB.out.trans (hb.mono HB.out.size))
       clear hb
       have HWq := Lib.hid hW; have HBEq := Lib.hid hbe
       clear hW hbe
       obtain ⟨hq1, hq2⟩ := HPp.out.uniq HPq.out
       subst isq
       subst tq
       have HIT := Lib.hid HPp.out.ints; have HLT := Lib.hid (HPp.out.len (by have := HBYR.out.1.1; omega))
       have k0p := Xp.out.cell 0
       have k1p := Xp.out.cell 1
       have k2p := Xp.out.cell 2
       have k3p := Xp.out.cell 3
       have k4p := Xp.out.cell 4
       have k5p := Xp.out.cell 5
       have k0q := Xq.out.cell 0
       have k1q := Xq.out.cell 1
       have k2q := Xq.out.cell 2
       have k3q := Xq.out.cell 3
       have k4q := Xq.out.cell 4
       have k5q := Xq.out.cell 5
       simp only [List.getElem?_toArray, List.getElem?_cons_zero, List.getElem?_cons_succ] at k0p k0q k1p k1q k2p k2q k3p k3q k4p k4q k5p k5q
       rw [<- HWq.out] at k0p k0q k1p k1q k2p k2q k3p k3q k4p k4q k5p k5q
       rw [<- HBEq.out] at k0q k1q k2q k3q k4q k5q
       have hxx : (isp != isp) = false := by cases isp <;> rfl
       go_wp2_with fail
       rw [HWq.out]
       clear k0p k0q k1p k1q k2p k2q k3p k3q k4p k4q k5p k5q
       refine (rsame_any HTp.out HTq.out HIT.out HIT.out HLT.out HLT.out (r := true) ⟨fun _ => rfl, fun _ => rfl⟩).mono ?_
       rintro e W5' ⟨rfl, hb⟩
       replace HWR := Lib.hid (HWR.out.trans (hb.mono HWR.out.size))
       clear hb
       go_wp2_with fail
       exact ⟨⟨i + 1, by go_num, by omega, HWR⟩, by simp [intOf]; omega⟩
      ·obtain rfl : i = 7 := by omega
       go_wp2_with fail
       go_ret
       exact ⟨rfl, HB.out.trans (HBW.out.mono HB.out.size)⟩
end Go.Proofs.Ytjkcglgkdclidaa
