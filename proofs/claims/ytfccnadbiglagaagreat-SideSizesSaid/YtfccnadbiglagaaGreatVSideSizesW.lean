/- The law SideSizes, walked. -/
import Derived.Test.YtfccnadbiglagaaGreatVSideKp
import Derived.Test.YtfccnadbiglagaaGreatVAny
set_option linter.unusedVariables false
set_option linter.unusedSimpArgs false
set_option maxRecDepth 100000
set_option maxHeartbeats 8000000
namespace Go.Proofs.YtfccnadbiglagaaGreat
open Go Go.RowKit Go.Proofs
theorem rawMk_size (right : Bool) (k n : Int) (p0 p1 : Pat) (d : Nat) (h0 : sizeN p0 <= d) (h1 : sizeN p1 <= d) (hd : 1 <= d) : sizeN (rawMk right k n p0 p1) <= 4 * d := by
 have a3 := wthN_lt n 3 (by omega)
 have b3 := wthN_lt (n.tdiv 3) 3 (by omega)
 simp only [Int.cast_ofNat_Int] at a3 b3
 unfold rawMk
 dsimp only
 split; · simp [sizeN]
 split; · simp [sizeN]; omega
 split; · simp [sizeN]; omega
 split; · simp [sizeN]; omega
 split; · simp [sizeN]; omega
 split; · simp [sizeN]; omega
 split
 ·show sizeN p0 * (wthN n 3 + wthN (n.tdiv 3) 3) <= 4 * d
  have := Nat.mul_le_mul h0 (show wthN n 3 + wthN (n.tdiv 3) 3 <= 4 by omega)
  omega
 split
 ·omega
 ·show sizeN p0 <= 4 * d
  omega
theorem rawP_size (right : Bool) : ∀ (f : Nat) (x : RawP), FewR f x -> sizeN (x.pat right) <= 4 ^ f := by
 intro f
 induction f with
 | zero => intro x h; simp [FewR, sizeR] at h
 | succ f ih =>
   intro x h
   have hp : ∀ i, sizeN (x.part right i) <= 4 ^ f := by
    intro i
    unfold RawP.part
    cases hy : x.l[i]? with
    | none => exact Nat.pos_of_ne_zero (by simp)
    | some y =>
      obtain ⟨f', e, hf⟩ := h.part hy
      obtain rfl : f' = f := by omega
      exact ih y hf
   rw [RawP.pat_eq, Nat.pow_succ, Nat.mul_comm]
   exact rawMk_size right _ _ _ _ _ (hp 0) (hp 1) (Nat.pos_of_ne_zero (by simp))
structure P12 where
 x7 : Nat
 x8 : Nat
 k0 : Int
 lo0 : Int
 hi0 : Int
 wt0 : Int
 nm0 : ByteArray
 A0 : Option Addr
 n0 : Nat
 c0 : Nat
 k1 : Int
 lo1 : Int
 hi1 : Int
 wt1 : Int
 nm1 : ByteArray
 A1 : Option Addr
 n1 : Nat
 c1 : Nat
theorem anyX_g2 {P : Program} {ops : Array Oper} {Q : Exit -> Act -> World -> Prop} {md : Region.Mode} {S : World -> Prop} {m i j : Nat} {oi oj : Oper} {fuel : Nat} {listed : Array Bool} {a : Act} {w : World} (hr : Region.ready md ops listed = [i, j]) (hi : i ≠ m) (hj : j ≠ m)
  (hoi : ops[i]? = some oi) (hoj : ops[j]? = some oj) (hwi : Region.wanted oi (yielded ops a.tmps) = true) (hwj : Region.wanted oj (yielded ops a.tmps) = true)
  (h1 : ∀ K' : Act -> World -> Prop, (∀ a w, S w -> anyX P md ops Q S m fuel (listed.setIfInBounds i true) a w -> K' a w) -> Oper.wp P oi a w K' Q)
  (h2 : ∀ K' : Act -> World -> Prop, (∀ a w, S w -> anyX P md ops Q S m fuel (listed.setIfInBounds j true) a w -> K' a w) -> Oper.wp P oj a w K' Q) : anyX P md ops Q S m (fuel + 1) listed a w := by
  refine ⟨fun h0 => (by rw [hr] at h0; cases h0), fun k hk => ?_⟩
  rw [hr] at hk
  have hk' : k = i \/ k = j := by simpa using hk
  rcases hk' with rfl | rfl
  ·unfold wpOp
   rw [hoi]
   simp only [hwi, if_true]
   exact .inl (h1 _ fun a w hS hx => ⟨fun _ => hS, hx⟩)
  ·unfold wpOp
   rw [hoj]
   simp only [hwj, if_true]
   exact .inl (h2 _ fun a w hS hx => ⟨fun _ => hS, hx⟩)
theorem sideSizes_walk (lv : Value) (l : List RawP) (a1 a2 : Int) (w : World) (w0 : RawL w lv l) (w1 : (Lit.int .i64 a1).wf = true) (w2 : (Lit.int .i64 a2).wf = true) :
  Calls Tryz.prog 6 #[lv, .int .i64 a1, .int .i64 a2] w fun e w' => e = .returned (.bool true) /\ Below w.heap.size w w' := by
  have hL := w0
  have hwl := fun W : World => swth_any a1 13 (by omega) (by omega) W
  have hwh := fun W : World => swth_any a2 13 (by omega) (by omega) W
  have bl := wthN_lt a1 13 (by omega); have bh := wthN_lt a2 13 (by omega)
  rw [show ((13 : Nat) : Int) = 13 from rfl] at bl bh
  obtain ⟨q, hq⟩ : ∃ k, wthN a1 13 = k := ⟨_, rfl⟩
  obtain ⟨h, hh⟩ : ∃ k, wthN a2 13 = k := ⟨_, rfl⟩
  rw [hq] at hwl bl; rw [hh] at hwh bh
  obtain ⟨LA, ll, lc, rfl, hll, hlc, hlm, -⟩ := w0
  have HWL := Lib.hid hwl; have HWH := Lib.hid hwh; have HL := Lib.hid hL; have HLL := Lib.hid hll
  clear hL hll hwl hwh hq hh w1 w2
  go_enter Tryz.func6, Tryz.ntmps6
  go_wp2_with fail
  refine (known7_ok w).mono ?_
  rintro e W1 ⟨rfl, hb1⟩
  have hfw := few_any l W1 _ (HL.out.below hb1)
  have HB1 := Lib.hid hb1; clear hb1
  by_cases hfew : sizeR 6 l <= 30
  rotate_left
  ·have hf : fewB l = false := by unfold fewB; simpa using hfew
   rw [hf] at hfw
   have HFW := Lib.hid hfw
   clear hfw hf hfew
   go_wp2_with fail
   refine HFW.out.mono ?_
   rintro e W ⟨rfl, rfl⟩
   go_wp2_with fail
   go_ret
   exact ⟨rfl, HB1.out⟩
  have hf : fewB l = true := by unfold fewB; simpa using hfew
  rw [hf] at hfw
  have HFW := Lib.hid hfw; have HFEW := Lib.hid hfew
  clear hfw hf hfew
  go_wp2_with fail
  refine HFW.out.mono ?_
  rintro e w2 ⟨rfl, rfl⟩
  obtain ⟨w2, hw2⟩ : ∃ W, W1 = W := ⟨_, rfl⟩
  rw [hw2] at HB1 ⊢
  clear hw2 HFW
  unfold maxLen at hlm
  have l0 : (0 : Int) <= (ll : Int) := Int.natCast_nonneg _
  by_cases hl2 : ll < 2
  ·have l1 : (ll : Int) < 2 := by omega
   have d1 : decide (ll < 2) = true := by simpa using hl2
   have d2 : decide ((ll : Int) < 2) = true := by simpa using l1
   go_wp2_with fail
   go_ret
   exact ⟨rfl, HB1.out⟩
  have l1 : ¬ (ll : Int) < 2 := by omega
  have d1 : decide (ll < 2) = false := by simpa using hl2
  have d2 : decide ((ll : Int) < 2) = false := by simpa using l1
  have l2 : 0 < ll := by omega
  have l3 : 1 < ll := by omega
  have l5 : (1 : Int) < (ll : Int) := by omega
  have i0 : 0 < l.length := by rw [HLL.out]; omega
  have i1 : 1 < l.length := by rw [HLL.out]; omega
  obtain ⟨g, o, m', c', u, e, -, -, -, hcs, -, hwf0, hu⟩ := HL.out.get i0
  simp only [Value.slice.injEq] at e
  obtain ⟨rfl, -, -⟩ := e
  obtain ⟨g', o', m', c', v, e, -, -, -, hcs1, -, hwf1, hv⟩ := HL.out.get i1
  simp only [Value.slice.injEq, Option.some.injEq, Addr.mk.injEq, and_true] at e
  obtain ⟨⟨rfl, rfl⟩, -, -⟩ := e
  have hf0 := (few_mem HFEW.out (List.getElem_mem i0)).1
  have hf1 := (few_mem HFEW.out (List.getElem_mem i1)).1
  have hma : ∀ W, Below w2.heap.size w2 W -> Calls Tryz.prog 16 #[.agg #[.int .i64 (l[0]).k, .int .i64 (l[0]).n, u], .bool false] W (MadeR W ((l[0]).pat false)) := fun W hW => make_any false 5 (l[0]) W u hf0 ((hu.below HB1.out).below hW) hwf0
  have hmb : ∀ W, Below w2.heap.size w2 W -> Calls Tryz.prog 16 #[.agg #[.int .i64 (l[1]).k, .int .i64 (l[1]).n, v], .bool false] W (MadeR W ((l[1]).pat false)) := fun W hW => make_any false 5 (l[1]) W v hf1 ((hv.below HB1.out).below hW) hwf1
  have hok0 := (RawP.ok (D := dNames) (fun s h => h) false 5 (l[0]) hf0).1
  have hok1 := (RawP.ok (D := dNames) (fun s h => h) false 5 (l[1]) hf1).1
  have hz0 := rawP_size false 5 (l[0]) hf0
  have hz1 := rawP_size false 5 (l[1]) hf1
  obtain ⟨ka, hka⟩ : ∃ z, (l[0]).k = z := ⟨_, rfl⟩
  obtain ⟨na, hna⟩ : ∃ z, (l[0]).n = z := ⟨_, rfl⟩
  obtain ⟨kb, hkb⟩ : ∃ z, (l[1]).k = z := ⟨_, rfl⟩
  obtain ⟨nb, hnb⟩ : ∃ z, (l[1]).n = z := ⟨_, rfl⟩
  obtain ⟨pa, hpa⟩ : ∃ z, (l[0]).pat false = z := ⟨_, rfl⟩
  obtain ⟨pb, hpb⟩ : ∃ z, (l[1]).pat false = z := ⟨_, rfl⟩
  rw [hka, hna] at hma hcs
  rw [hkb, hnb] at hmb hcs1
  rw [hpa] at hma hok0 hz0
  rw [hpb] at hmb hok1 hz1
  obtain ⟨uA, un, uc, rfl, -⟩ := hu
  obtain ⟨vA, vn, vc, rfl, -⟩ := hv
  have hsa := ssize_ok pa hok0.hb; have hsb := ssize_ok pb hok1.hb
  have hsc := ssize_ok (.cat pa pb) ⟨hok0.hb, hok1.hb⟩; have hsl := ssize_ok (.alt pa pb) ⟨hok0.hb, hok1.hb⟩; have hss := ssize_ok (.star pa) hok0.hb; have hsw := ssize_ok (.weight pa 3) hok0.hb
  obtain ⟨mn, hmn⟩ : ∃ z, min q h = z := ⟨_, rfl⟩
  have hst := ssize_ok (.times pa mn h) ⟨hok0.hb, by omega, by omega⟩
  have hza : sizeC pa <= 1024 := by have := sizeC_min pa; have : (4 : Nat) ^ 5 = 1024 := rfl; omega
  have hzb : sizeC pb <= 1024 := by have := sizeC_min pb; have : (4 : Nat) ^ 5 = 1024 := rfl; omega
  obtain ⟨sa, hsaE⟩ : ∃ z, sizeC pa = z := ⟨_, rfl⟩
  obtain ⟨sb, hsbE⟩ : ∃ z, sizeC pb = z := ⟨_, rfl⟩
  obtain ⟨sh, hsh⟩ : ∃ z, sa * h = z := ⟨_, rfl⟩
  have hec : sizeC (.cat pa pb) = sa + sb := by show min (sizeC pa + sizeC pb) 1000000000 = _; omega
  have hel : sizeC (.alt pa pb) = sa + sb := by show min (sizeC pa + sizeC pb) 1000000000 = _; omega
  have hes : sizeC (.star pa) = sa := hsaE
  have hew : sizeC (.weight pa 3) = sa := hsaE
  have hshb : sh <= 1024 * 12 := by rw [<- hsh]; exact Nat.mul_le_mul (by omega) (by omega)
  have het : sizeC (.times pa mn h) = sh := by show min (sizeC pa * h) 1000000000 = _; rw [hsaE, hsh]; omega
  have hshi : (sa : Int) * (h : Int) = (sh : Int) := by rw [<- hsh]; simp
  unfold SizeSpec at hsa hsb hsc hsl hss hsw hst
  obtain ⟨ta, hta⟩ : ∃ z, pa.tree = z := ⟨_, rfl⟩
  obtain ⟨tb, htb⟩ : ∃ z, pb.tree = z := ⟨_, rfl⟩
  unfold MadeR at hma hmb
  rw [hta] at hma hsa
  rw [htb] at hmb hsb
  rw [show (Pat.cat pa pb).tree = .mk 4 0 0 0 [] [pa.tree, pb.tree] from rfl, hta, htb] at hsc
  rw [show (Pat.alt pa pb).tree = .mk 5 0 0 0 [] [pa.tree, pb.tree] from rfl, hta, htb] at hsl
  rw [show (Pat.star pa).tree = .mk 6 0 0 0 [] [pa.tree] from rfl, hta] at hss
  rw [show (Pat.weight pa 3).tree = .mk 8 0 0 3 [] [pa.tree] from rfl, hta] at hsw
  rw [show (Pat.times pa mn h).tree = .mk 7 (mn : Nat) (h : Nat) 0 [] [pa.tree] from rfl, hta] at hst
  rw [hsaE] at hsa; rw [hsbE] at hsb
  rw [show o + 0 * 3 = o by omega] at hcs
  rw [show o + 1 * 3 = o + 3 by omega] at hcs1
  have hca := And.intro (bel_q HB1.out (hcs 0 _ rfl)) (And.intro (bel_q HB1.out (hcs 1 _ rfl)) (bel_q HB1.out (hcs 2 _ rfl)))
  have hcb := And.intro (bel_q HB1.out (hcs1 0 _ rfl)) (And.intro (bel_q HB1.out (hcs1 1 _ rfl)) (bel_q HB1.out (hcs1 2 _ rfl)))
  have hrf : ∀ W : World, Below w2.heap.size w2 W -> (fun w' : World => w'.cell? ⟨g, o, none⟩ = some (.int .i64 ka) /\ w'.cell? ⟨g, o + 1, none⟩ = some (.int .i64 na) /\ w'.cell? ⟨g, o + 2, none⟩ = some (.slice uA un uc) /\ w'.cell? ⟨g, o + 3, none⟩ = some (.int .i64 kb) /\ w'.cell? ⟨g, o + 3 + 1, none⟩ = some (.int .i64 nb) /\ w'.cell? ⟨g, o + 3 + 2, none⟩ = some (.slice vA vn vc)) W := fun W hW => ⟨bel_q hW hca.1, bel_q hW hca.2.1, bel_q hW hca.2.2, bel_q hW hcb.1, bel_q hW hcb.2.1, bel_q hW hcb.2.2⟩
  have HMA := Lib.hid hma; have HMB := Lib.hid hmb; have HSA := Lib.hid hsa; have HSB := Lib.hid hsb; have HSC := Lib.hid hsc; have HSL := Lib.hid hsl; have HSS := Lib.hid hss; have HSW := Lib.hid hsw; have HST := Lib.hid hst; have HEC := Lib.hid hec; have HEL := Lib.hid hel; have HES := Lib.hid hes; have HEW := Lib.hid hew; have HET := Lib.hid het; have HRF := Lib.hid hrf; have HSHI := Lib.hid hshi; have HMN := Lib.hid hmn
  have hsab : sa <= 1024 := by omega
  have hsbb : sb <= 1024 := by omega
  clear hma hmb hsa hsb hsc hsl hss hsw hst hec hel hes hew het hrf hok0 hok1 hz0 hz1 hza hzb hsaE hsbE hsh hta htb hpa hpb hka hna hkb hnb hcs hcs1 hca hcb hf0 hf1 hwf0 hwf1 i0 i1 hshi hmn HL
  go_wp2_with fail
  refine region_xq (π := P12) 11 (fun w' : World => w'.cell? ⟨g, o, none⟩ = some (.int .i64 ka) /\ w'.cell? ⟨g, o + 1, none⟩ = some (.int .i64 na) /\ w'.cell? ⟨g, o + 2, none⟩ = some (.slice uA un uc) /\ w'.cell? ⟨g, o + 3, none⟩ = some (.int .i64 kb) /\ w'.cell? ⟨g, o + 3 + 1, none⟩ = some (.int .i64 nb) /\ w'.cell? ⟨g, o + 3 + 2, none⟩ = some (.slice vA vn vc)) (fun (p : P12) (a : Act) => (((((((((((a.put (some 22) (.slice (some ⟨g, o, none⟩) ll lc)).put (some 23) (.pointer (some ⟨g, o, none⟩))).put (some 24) (.agg #[.int .i64 ka, .int .i64 na, .slice uA un uc])).put (some 26) (.slice (some ⟨g, o, none⟩) ll lc)).put (some 27) (.pointer (some ⟨g, o + 3, none⟩))).put (some 28) (.agg #[.int .i64 kb, .int .i64 nb, .slice vA vn vc])).put (some 25) (.agg #[.int .i64 p.k0, .int .i64 p.lo0, .int .i64 p.hi0, .int .i64 p.wt0, .string p.nm0, .slice p.A0 p.n0 p.c0])).put (some 29) (.agg #[.int .i64 p.k1, .int .i64 p.lo1, .int .i64 p.hi1, .int .i64 p.wt1, .string p.nm1, .slice p.A1 p.n1 p.c1])).put (some 7) (.pointer (some ⟨p.x7, 0, none⟩))).put (some 8) (.pointer (some ⟨p.x8, 0, none⟩))))) (fun (p : P12) (W : World) => Below w2.heap.size w2 W /\ p.x7 ≠ p.x8 /\ Blk W p.x7 33 #[.int .i64 p.k0, .int .i64 p.lo0, .int .i64 p.hi0, .int .i64 p.wt0, .string p.nm0, .slice p.A0 p.n0 p.c0] /\ Blk W p.x8 33 #[.int .i64 p.k1, .int .i64 p.lo1, .int .i64 p.hi1, .int .i64 p.wt1, .string p.nm1, .slice p.A1 p.n1 p.c1] /\ TreeV true W (fun q => q ≠ p.x7 /\ q ≠ p.x8) (.agg #[.int .i64 p.k0, .int .i64 p.lo0, .int .i64 p.hi0, .int .i64 p.wt0, .string p.nm0, .slice p.A0 p.n0 p.c0]) ta /\ TreeV true W (fun q => q ≠ p.x7 /\ q ≠ p.x8) (.agg #[.int .i64 p.k1, .int .i64 p.lo1, .int .i64 p.hi1, .int .i64 p.wt1, .string p.nm1, .slice p.A1 p.n1 p.c1]) tb) (fun (p : P12) (W : World) => Below w2.heap.size w2 W /\ p.x7 ≠ p.x8 /\ Blk W p.x7 33 #[.int .i64 0, .int .i64 0, .int .i64 0, .int .i64 0, .string ⟨#[]⟩, .slice none 0 0] /\ Blk W p.x8 33 #[.int .i64 0, .int .i64 0, .int .i64 0, .int .i64 0, .string ⟨#[]⟩, .slice none 0 0] /\ TreeV true W (fun q => q ≠ p.x7 /\ q ≠ p.x8) (.agg #[.int .i64 p.k0, .int .i64 p.lo0, .int .i64 p.hi0, .int .i64 p.wt0, .string p.nm0, .slice p.A0 p.n0 p.c0]) ta /\ TreeV true W (fun q => q ≠ p.x7 /\ q ≠ p.x8) (.agg #[.int .i64 p.k1, .int .i64 p.lo1, .int .i64 p.hi1, .int .i64 p.wt1, .string p.nm1, .slice p.A1 p.n1 p.c1]) tb /\ w2.heap.size <= p.x7 /\ w2.heap.size <= p.x8 /\ (W.cell? ⟨g, o, none⟩ = some (.int .i64 ka) /\ W.cell? ⟨g, o + 1, none⟩ = some (.int .i64 na) /\ W.cell? ⟨g, o + 2, none⟩ = some (.slice uA un uc) /\ W.cell? ⟨g, o + 3, none⟩ = some (.int .i64 kb) /\ W.cell? ⟨g, o + 3 + 1, none⟩ = some (.int .i64 nb) /\ W.cell? ⟨g, o + 3 + 2, none⟩ = some (.slice vA vn vc))) 2 #[true, true, true, true, true, true, true, true, true, true, false, false] (by kernel_rfl) ?_ ?_ ?_
  ·clear HMA HMB HSA HSB HSC HSL HSS HSW HST
   rintro ⟨x7, x8, k0, lo0, hi0, wt0, nm0, A0, n0, c0, k1, lo1, hi1, wt1, nm1, A1, n1, c1⟩ W ⟨h1, hne, h2, h3, h4, h5, h6, h7, h8⟩
   dsimp only at hne h2 h3 h4 h5 h6 h7 ⊢
   try simp only [Act.put, zq1, zq2, zq3, zq4, zq5, zq6]
   have r0 := Blk.cell h2 0
   have r1 := Blk.cell h2 1
   have r2 := Blk.cell h2 2
   have r3 := Blk.cell h2 3
   have r4 := Blk.cell h2 4
   have r5 := Blk.cell h2 5
   simp only [List.getElem?_toArray, List.getElem?_cons_zero, List.getElem?_cons_succ] at r0 r1 r2 r3 r4 r5
   have f0 := Blk.frozen h2 0
   have f1 := Blk.frozen h2 1
   have f2 := Blk.frozen h2 2
   have f3 := Blk.frozen h2 3
   have f4 := Blk.frozen h2 4
   have f5 := Blk.frozen h2 5
   refine anyX_g (i := 10) (by kernel_rfl) (by decide) rfl (by rfl) ?_
   intro K hK
   try simp only [zq1, zq2, zq3]
   go_simp
   obtain ⟨V, eV⟩ : ∃ V, ((((((W.setCell ⟨x7, 0, none⟩ (.int .i64 k0)).setCell ⟨x7, 1, none⟩ (.int .i64 lo0)).setCell ⟨x7, 2, none⟩ (.int .i64 hi0)).setCell ⟨x7, 3, none⟩ (.int .i64 wt0)).setCell ⟨x7, 4, none⟩ (.string nm0)).setCell ⟨x7, 5, none⟩ (.slice A0 n0 c0)) = V := ⟨_, rfl⟩
   rw [eV]
   have q2 : Blk V x7 33 #[.int .i64 k0, .int .i64 lo0, .int .i64 hi0, .int .i64 wt0, .string nm0, .slice A0 n0 c0] := by rw [<- eV]; simpa using ((((((h2.set_ 0 (.int .i64 k0)).set_ 1 (.int .i64 lo0)).set_ 2 (.int .i64 hi0)).set_ 3 (.int .i64 wt0)).set_ 4 (.string nm0)).set_ 5 (.slice A0 n0 c0))
   have q3 : Blk V x8 33 #[.int .i64 0, .int .i64 0, .int .i64 0, .int .i64 0, .string ⟨#[]⟩, .slice none 0 0] := by rw [<- eV]; exact ((((((h3.far (p := ⟨x7, 0, none⟩) (Ne.symm hne) (.int .i64 k0)).far (p := ⟨x7, 1, none⟩) (Ne.symm hne) (.int .i64 lo0)).far (p := ⟨x7, 2, none⟩) (Ne.symm hne) (.int .i64 hi0)).far (p := ⟨x7, 3, none⟩) (Ne.symm hne) (.int .i64 wt0)).far (p := ⟨x7, 4, none⟩) (Ne.symm hne) (.string nm0)).far (p := ⟨x7, 5, none⟩) (Ne.symm hne) (.slice A0 n0 c0))
   have q4 : TreeV true V (fun q => q ≠ x7 /\ q ≠ x8) (.agg #[.int .i64 k0, .int .i64 lo0, .int .i64 hi0, .int .i64 wt0, .string nm0, .slice A0 n0 c0]) ta := by rw [<- eV]; exact ((((((h4.far (p := ⟨x7, 0, none⟩) (fun q h => h.1) (.int .i64 k0)).far (p := ⟨x7, 1, none⟩) (fun q h => h.1) (.int .i64 lo0)).far (p := ⟨x7, 2, none⟩) (fun q h => h.1) (.int .i64 hi0)).far (p := ⟨x7, 3, none⟩) (fun q h => h.1) (.int .i64 wt0)).far (p := ⟨x7, 4, none⟩) (fun q h => h.1) (.string nm0)).far (p := ⟨x7, 5, none⟩) (fun q h => h.1) (.slice A0 n0 c0))
   have q5 : TreeV true V (fun q => q ≠ x7 /\ q ≠ x8) (.agg #[.int .i64 k1, .int .i64 lo1, .int .i64 hi1, .int .i64 wt1, .string nm1, .slice A1 n1 c1]) tb := by rw [<- eV]; exact ((((((h5.far (p := ⟨x7, 0, none⟩) (fun q h => h.1) (.int .i64 k0)).far (p := ⟨x7, 1, none⟩) (fun q h => h.1) (.int .i64 lo0)).far (p := ⟨x7, 2, none⟩) (fun q h => h.1) (.int .i64 hi0)).far (p := ⟨x7, 3, none⟩) (fun q h => h.1) (.int .i64 wt0)).far (p := ⟨x7, 4, none⟩) (fun q h => h.1) (.string nm0)).far (p := ⟨x7, 5, none⟩) (fun q h => h.1) (.slice A0 n0 c0))
   have q1 : Below w2.heap.size w2 V := by rw [<- eV]; exact ((((((h1.setCell (p := ⟨x7, 0, none⟩) h6 (.int .i64 k0)).setCell (p := ⟨x7, 1, none⟩) h6 (.int .i64 lo0)).setCell (p := ⟨x7, 2, none⟩) h6 (.int .i64 hi0)).setCell (p := ⟨x7, 3, none⟩) h6 (.int .i64 wt0)).setCell (p := ⟨x7, 4, none⟩) h6 (.string nm0)).setCell (p := ⟨x7, 5, none⟩) h6 (.slice A0 n0 c0))
   have hS' : (fun w' : World => w'.cell? ⟨g, o, none⟩ = some (.int .i64 ka) /\ w'.cell? ⟨g, o + 1, none⟩ = some (.int .i64 na) /\ w'.cell? ⟨g, o + 2, none⟩ = some (.slice uA un uc) /\ w'.cell? ⟨g, o + 3, none⟩ = some (.int .i64 kb) /\ w'.cell? ⟨g, o + 3 + 1, none⟩ = some (.int .i64 nb) /\ w'.cell? ⟨g, o + 3 + 2, none⟩ = some (.slice vA vn vc)) V := HRF.out V q1
   refine hK _ _ hS' ?_
   clear hK eV h1 h2 h3 h4 h5 h8 hS' r0 r1 r2 r3 r4 r5 f0 f1 f2 f3 f4 f5
   try simp only [Act.put, zq1, zq2, zq3, zq4, zq5, zq6]
   have r0 := Blk.cell q3 0
   have r1 := Blk.cell q3 1
   have r2 := Blk.cell q3 2
   have r3 := Blk.cell q3 3
   have r4 := Blk.cell q3 4
   have r5 := Blk.cell q3 5
   simp only [List.getElem?_toArray, List.getElem?_cons_zero, List.getElem?_cons_succ] at r0 r1 r2 r3 r4 r5
   have f0 := Blk.frozen q3 0
   have f1 := Blk.frozen q3 1
   have f2 := Blk.frozen q3 2
   have f3 := Blk.frozen q3 3
   have f4 := Blk.frozen q3 4
   have f5 := Blk.frozen q3 5
   refine anyX_last (by kernel_rfl) (by kernel_rfl) rfl rfl ?_
   try simp only [zq1, zq2, zq3]
   go_simp
   refine .inl ⟨⟨x7, x8, k0, lo0, hi0, wt0, nm0, A0, n0, c0, k1, lo1, hi1, wt1, nm1, A1, n1, c1⟩, rfl, ?_, ?_⟩
   ·dsimp only
    simp only [Act.put, zq1, zq2, zq3, zq4, zq5, zq6]
   exact ⟨((((((q1.setCell (p := ⟨x8, 0, none⟩) h7 (.int .i64 k1)).setCell (p := ⟨x8, 1, none⟩) h7 (.int .i64 lo1)).setCell (p := ⟨x8, 2, none⟩) h7 (.int .i64 hi1)).setCell (p := ⟨x8, 3, none⟩) h7 (.int .i64 wt1)).setCell (p := ⟨x8, 4, none⟩) h7 (.string nm1)).setCell (p := ⟨x8, 5, none⟩) h7 (.slice A1 n1 c1)), hne, ((((((q2.far (p := ⟨x8, 0, none⟩) hne (.int .i64 k1)).far (p := ⟨x8, 1, none⟩) hne (.int .i64 lo1)).far (p := ⟨x8, 2, none⟩) hne (.int .i64 hi1)).far (p := ⟨x8, 3, none⟩) hne (.int .i64 wt1)).far (p := ⟨x8, 4, none⟩) hne (.string nm1)).far (p := ⟨x8, 5, none⟩) hne (.slice A1 n1 c1)), by simpa using ((((((q3.set_ 0 (.int .i64 k1)).set_ 1 (.int .i64 lo1)).set_ 2 (.int .i64 hi1)).set_ 3 (.int .i64 wt1)).set_ 4 (.string nm1)).set_ 5 (.slice A1 n1 c1)), ((((((q4.far (p := ⟨x8, 0, none⟩) (fun q h => h.2) (.int .i64 k1)).far (p := ⟨x8, 1, none⟩) (fun q h => h.2) (.int .i64 lo1)).far (p := ⟨x8, 2, none⟩) (fun q h => h.2) (.int .i64 hi1)).far (p := ⟨x8, 3, none⟩) (fun q h => h.2) (.int .i64 wt1)).far (p := ⟨x8, 4, none⟩) (fun q h => h.2) (.string nm1)).far (p := ⟨x8, 5, none⟩) (fun q h => h.2) (.slice A1 n1 c1)), ((((((q5.far (p := ⟨x8, 0, none⟩) (fun q h => h.2) (.int .i64 k1)).far (p := ⟨x8, 1, none⟩) (fun q h => h.2) (.int .i64 lo1)).far (p := ⟨x8, 2, none⟩) (fun q h => h.2) (.int .i64 hi1)).far (p := ⟨x8, 3, none⟩) (fun q h => h.2) (.int .i64 wt1)).far (p := ⟨x8, 4, none⟩) (fun q h => h.2) (.string nm1)).far (p := ⟨x8, 5, none⟩) (fun q h => h.2) (.slice A1 n1 c1))⟩
  ·intro HLF
   have hR0 : Below w2.heap.size w2 w2.drew := (Below.refl _ _).drew
   have hS0 := HRF.out _ hR0
   obtain ⟨V0, eV⟩ : ∃ W', w2.drew = W' := ⟨_, rfl⟩
   rw [eV] at hR0 hS0 ⊢
   clear eV
   refine tkx (i := 0) (v := ?_) hS0 ?_ ?_ (hQ := by exact ends_panic _ _ (fun _ _ _ h => h))
   rotate_left
   ·rintro w' ⟨b0, b1, b2, b3, b4, b5⟩
    go_simp
    try with_reducible rfl
   try simp only [Act.put, zq1, zq2, zq3, zq4, zq5, zq6]
   refine tkx (i := 1) (v := ?_) hS0 ?_ ?_ (hQ := by exact ends_panic _ _ (fun _ _ _ h => h))
   rotate_left
   ·rintro w' ⟨b0, b1, b2, b3, b4, b5⟩
    go_simp
    try with_reducible rfl
   try simp only [Act.put, zq1, zq2, zq3, zq4, zq5, zq6]
   refine tkx (i := 2) (v := ?_) hS0 ?_ ?_ (hQ := by exact ends_panic _ _ (fun _ _ _ h => h))
   rotate_left
   ·rintro w' ⟨b0, b1, b2, b3, b4, b5⟩
    go_simp
    try with_reducible rfl
   try simp only [Act.put, zq1, zq2, zq3, zq4, zq5, zq6]
   refine tkx (i := 4) (v := ?_) hS0 ?_ ?_ (hQ := by exact ends_panic _ _ (fun _ _ _ h => h))
   rotate_left
   ·rintro w' ⟨b0, b1, b2, b3, b4, b5⟩
    go_simp
    try with_reducible rfl
   try simp only [Act.put, zq1, zq2, zq3, zq4, zq5, zq6]
   refine tkx (i := 5) (v := ?_) hS0 ?_ ?_ (hQ := by exact ends_panic _ _ (fun _ _ _ h => h))
   rotate_left
   ·rintro w' ⟨b0, b1, b2, b3, b4, b5⟩
    go_simp
    try with_reducible rfl
   try simp only [Act.put, zq1, zq2, zq3, zq4, zq5, zq6]
   refine tkx (i := 6) (v := ?_) hS0 ?_ ?_ (hQ := by exact ends_panic _ _ (fun _ _ _ h => h))
   rotate_left
   ·rintro w' ⟨b0, b1, b2, b3, b4, b5⟩
    go_simp
    try with_reducible rfl
   try simp only [Act.put, zq1, zq2, zq3, zq4, zq5, zq6]
   have qs000 : True := trivial
   all_goals try (
    clear qs000
    refine anyX_3 (i := 3) (j := 8) (l := 9) (by kernel_rfl) (by decide) (by decide) (by decide) rfl rfl rfl rfl rfl rfl ?_ ?_ ?_
    focus
     intro K hK
     try simp only [zq1, zq2, zq3]
     refine wp_enterE #[.agg #[.int .i64 ka, .int .i64 na, .slice uA un uc], .bool false] Tryz.func16 (by kernel_rfl) (by kernel_rfl) ?_ (HMA.out V0 hR0) ?_
     ·go_simp
     rintro e V1 ⟨v, rfl, hhd, ht0, hb⟩
     refine ⟨_, rfl, ?_⟩
     obtain ⟨k0, lo0, hi0, wt0, nm0, A0, n0, c0, rfl⟩ := hhd
     obtain ⟨L0, hL⟩ : ∃ L, V0.heap.size = L := ⟨_, rfl⟩
     obtain ⟨U0, hU⟩ : ∃ L, V1.heap.size = L := ⟨_, rfl⟩
     replace ht0 : TreeV true V1 (fun q => L0 <= q /\ q < U0) (.agg #[.int .i64 k0, .int .i64 lo0, .int .i64 hi0, .int .i64 wt0, .string nm0, .slice A0 n0 c0]) ta := ht0.bound.keep (fun q h => ⟨by rw [<- hL]; exact h.1, by rw [<- hU]; exact h.2⟩) (fun _ _ _ _ h => h)
     have hu0 : U0 <= V1.heap.size := Nat.le_of_eq hU.symm
     clear hL hU
     have hR1 := hR0.trans (hb.mono hR0.size)
     have hS1 := HRF.out _ hR1
     clear hb
     refine hK _ _ hS1 ?_
     clear hK
     try simp only [Act.put, zq1, zq2, zq3, zq4, zq5, zq6]
     have qs100 : True := trivial
    rotate_left
    focus
     intro K hK
     try simp only [zq1, zq2, zq3]
     go_simp
     obtain ⟨V1, eV⟩ : ∃ W', V0.alloc (.cells #[.int .i64 0, .int .i64 0, .int .i64 0, .int .i64 0, .string ⟨#[]⟩, .slice none 0 0] 33) = W' := ⟨_, rfl⟩
     have hb : Below V0.heap.size V0 V1 := by rw [<- eV]; exact (Below.refl _ _).alloc (Nat.le_refl _) _
     have hx8 : Blk V1 V0.heap.size 33 #[.int .i64 0, .int .i64 0, .int .i64 0, .int .i64 0, .string ⟨#[]⟩, .slice none 0 0] := by rw [<- eV]; exact Blk.new _ _ _
     rw [eV]
     clear eV
     obtain ⟨x7, hp⟩ : ∃ p, V0.heap.size = p := ⟨_, rfl⟩
     rw [hp] at hx8 ⊢
     have hw8 : w2.heap.size <= x7 := by have := hR0.size; omega
     clear hp
     have hR1 := hR0.trans (hb.mono hR0.size)
     have hS1 := HRF.out _ hR1
     clear hb
     refine hK _ _ hS1 ?_
     clear hK
     try simp only [Act.put, zq1, zq2, zq3, zq4, zq5, zq6]
     have qs010 : True := trivial
    rotate_left
    focus
     intro K hK
     try simp only [zq1, zq2, zq3]
     go_simp
     obtain ⟨V1, eV⟩ : ∃ W', V0.alloc (.cells #[.int .i64 0, .int .i64 0, .int .i64 0, .int .i64 0, .string ⟨#[]⟩, .slice none 0 0] 33) = W' := ⟨_, rfl⟩
     have hb : Below V0.heap.size V0 V1 := by rw [<- eV]; exact (Below.refl _ _).alloc (Nat.le_refl _) _
     have hx9 : Blk V1 V0.heap.size 33 #[.int .i64 0, .int .i64 0, .int .i64 0, .int .i64 0, .string ⟨#[]⟩, .slice none 0 0] := by rw [<- eV]; exact Blk.new _ _ _
     rw [eV]
     clear eV
     obtain ⟨x8, hp⟩ : ∃ p, V0.heap.size = p := ⟨_, rfl⟩
     rw [hp] at hx9 ⊢
     have hw9 : w2.heap.size <= x8 := by have := hR0.size; omega
     clear hp
     have hR1 := hR0.trans (hb.mono hR0.size)
     have hS1 := HRF.out _ hR1
     clear hb
     refine hK _ _ hS1 ?_
     clear hK
     try simp only [Act.put, zq1, zq2, zq3, zq4, zq5, zq6]
     have qs001 : True := trivial)
   all_goals try (
    clear qs010
    refine anyX_2 (i := 3) (j := 9) (by kernel_rfl) (by decide) (by decide) rfl rfl rfl rfl ?_ ?_
    focus
     intro K hK
     try simp only [zq1, zq2, zq3]
     refine wp_enterE #[.agg #[.int .i64 ka, .int .i64 na, .slice uA un uc], .bool false] Tryz.func16 (by kernel_rfl) (by kernel_rfl) ?_ (HMA.out V1 hR1) ?_
     ·go_simp
     rintro e V2 ⟨v, rfl, hhd, ht0, hb⟩
     refine ⟨_, rfl, ?_⟩
     obtain ⟨k0, lo0, hi0, wt0, nm0, A0, n0, c0, rfl⟩ := hhd
     obtain ⟨L0, hL⟩ : ∃ L, V1.heap.size = L := ⟨_, rfl⟩
     obtain ⟨U0, hU⟩ : ∃ L, V2.heap.size = L := ⟨_, rfl⟩
     replace ht0 : TreeV true V2 (fun q => L0 <= q /\ q < U0) (.agg #[.int .i64 k0, .int .i64 lo0, .int .i64 hi0, .int .i64 wt0, .string nm0, .slice A0 n0 c0]) ta := ht0.bound.keep (fun q h => ⟨by rw [<- hL]; exact h.1, by rw [<- hU]; exact h.2⟩) (fun _ _ _ _ h => h)
     have hu0 : U0 <= V2.heap.size := Nat.le_of_eq hU.symm
     have hd80 : x7 < L0 := by have := hx8.lt; omega
     replace hx8 := Blk.below hx8 hb hx8.lt
     clear hL hU
     have hR2 := hR1.trans (hb.mono hR1.size)
     have hS2 := HRF.out _ hR2
     clear hb
     refine hK _ _ hS2 ?_
     clear hK
     try simp only [Act.put, zq1, zq2, zq3, zq4, zq5, zq6]
     have qs110 : True := trivial
    rotate_left
    focus
     intro K hK
     try simp only [zq1, zq2, zq3]
     go_simp
     obtain ⟨V2, eV⟩ : ∃ W', V1.alloc (.cells #[.int .i64 0, .int .i64 0, .int .i64 0, .int .i64 0, .string ⟨#[]⟩, .slice none 0 0] 33) = W' := ⟨_, rfl⟩
     have hb : Below V1.heap.size V1 V2 := by rw [<- eV]; exact (Below.refl _ _).alloc (Nat.le_refl _) _
     have hx9 : Blk V2 V1.heap.size 33 #[.int .i64 0, .int .i64 0, .int .i64 0, .int .i64 0, .string ⟨#[]⟩, .slice none 0 0] := by rw [<- eV]; exact Blk.new _ _ _
     rw [eV]
     clear eV
     obtain ⟨x8, hp⟩ : ∃ p, V1.heap.size = p := ⟨_, rfl⟩
     rw [hp] at hx9 ⊢
     have hw9 : w2.heap.size <= x8 := by have := hR1.size; omega
     have hne : x7 ≠ x8 := by have := hx8.lt; omega
     replace hx8 := Blk.below hx8 hb hx8.lt
     clear hp
     have hR2 := hR1.trans (hb.mono hR1.size)
     have hS2 := HRF.out _ hR2
     clear hb
     refine hK _ _ hS2 ?_
     clear hK
     try simp only [Act.put, zq1, zq2, zq3, zq4, zq5, zq6]
     have qs011 : True := trivial)
   all_goals try (
    clear qs001
    refine anyX_2 (i := 3) (j := 8) (by kernel_rfl) (by decide) (by decide) rfl rfl rfl rfl ?_ ?_
    focus
     intro K hK
     try simp only [zq1, zq2, zq3]
     refine wp_enterE #[.agg #[.int .i64 ka, .int .i64 na, .slice uA un uc], .bool false] Tryz.func16 (by kernel_rfl) (by kernel_rfl) ?_ (HMA.out V1 hR1) ?_
     ·go_simp
     rintro e V2 ⟨v, rfl, hhd, ht0, hb⟩
     refine ⟨_, rfl, ?_⟩
     obtain ⟨k0, lo0, hi0, wt0, nm0, A0, n0, c0, rfl⟩ := hhd
     obtain ⟨L0, hL⟩ : ∃ L, V1.heap.size = L := ⟨_, rfl⟩
     obtain ⟨U0, hU⟩ : ∃ L, V2.heap.size = L := ⟨_, rfl⟩
     replace ht0 : TreeV true V2 (fun q => L0 <= q /\ q < U0) (.agg #[.int .i64 k0, .int .i64 lo0, .int .i64 hi0, .int .i64 wt0, .string nm0, .slice A0 n0 c0]) ta := ht0.bound.keep (fun q h => ⟨by rw [<- hL]; exact h.1, by rw [<- hU]; exact h.2⟩) (fun _ _ _ _ h => h)
     have hu0 : U0 <= V2.heap.size := Nat.le_of_eq hU.symm
     have hd90 : x8 < L0 := by have := hx9.lt; omega
     replace hx9 := Blk.below hx9 hb hx9.lt
     clear hL hU
     have hR2 := hR1.trans (hb.mono hR1.size)
     have hS2 := HRF.out _ hR2
     clear hb
     refine hK _ _ hS2 ?_
     clear hK
     try simp only [Act.put, zq1, zq2, zq3, zq4, zq5, zq6]
     have qs101 : True := trivial
    rotate_left
    focus
     intro K hK
     try simp only [zq1, zq2, zq3]
     go_simp
     obtain ⟨V2, eV⟩ : ∃ W', V1.alloc (.cells #[.int .i64 0, .int .i64 0, .int .i64 0, .int .i64 0, .string ⟨#[]⟩, .slice none 0 0] 33) = W' := ⟨_, rfl⟩
     have hb : Below V1.heap.size V1 V2 := by rw [<- eV]; exact (Below.refl _ _).alloc (Nat.le_refl _) _
     have hx8 : Blk V2 V1.heap.size 33 #[.int .i64 0, .int .i64 0, .int .i64 0, .int .i64 0, .string ⟨#[]⟩, .slice none 0 0] := by rw [<- eV]; exact Blk.new _ _ _
     rw [eV]
     clear eV
     obtain ⟨x7, hp⟩ : ∃ p, V1.heap.size = p := ⟨_, rfl⟩
     rw [hp] at hx8 ⊢
     have hw8 : w2.heap.size <= x7 := by have := hR1.size; omega
     have hne : x7 ≠ x8 := by have := hx9.lt; omega
     replace hx9 := Blk.below hx9 hb hx9.lt
     clear hp
     have hR2 := hR1.trans (hb.mono hR1.size)
     have hS2 := HRF.out _ hR2
     clear hb
     refine hK _ _ hS2 ?_
     clear hK
     try simp only [Act.put, zq1, zq2, zq3, zq4, zq5, zq6]
     have qs011 : True := trivial)
   all_goals try (
    clear qs100
    refine anyX_3 (i := 7) (j := 8) (l := 9) (by kernel_rfl) (by decide) (by decide) (by decide) rfl rfl rfl rfl rfl rfl ?_ ?_ ?_
    focus
     intro K hK
     try simp only [zq1, zq2, zq3]
     refine wp_enterE #[.agg #[.int .i64 kb, .int .i64 nb, .slice vA vn vc], .bool false] Tryz.func16 (by kernel_rfl) (by kernel_rfl) ?_ (HMB.out V1 hR1) ?_
     ·go_simp
     rintro e V2 ⟨v, rfl, hhd, ht1, hb⟩
     refine ⟨_, rfl, ?_⟩
     obtain ⟨k1, lo1, hi1, wt1, nm1, A1, n1, c1, rfl⟩ := hhd
     obtain ⟨L1, hL⟩ : ∃ L, V1.heap.size = L := ⟨_, rfl⟩
     obtain ⟨U1, hU⟩ : ∃ L, V2.heap.size = L := ⟨_, rfl⟩
     replace ht1 : TreeV true V2 (fun q => L1 <= q /\ q < U1) (.agg #[.int .i64 k1, .int .i64 lo1, .int .i64 hi1, .int .i64 wt1, .string nm1, .slice A1 n1 c1]) tb := ht1.bound.keep (fun q h => ⟨by rw [<- hL]; exact h.1, by rw [<- hU]; exact h.2⟩) (fun _ _ _ _ h => h)
     have hu1 : U1 <= V2.heap.size := Nat.le_of_eq hU.symm
     replace ht0 := ht0.bel (fun q h => h) hb
     replace hu0 := Nat.le_trans hu0 hb.size
     clear hL hU
     have hR2 := hR1.trans (hb.mono hR1.size)
     have hS2 := HRF.out _ hR2
     clear hb
     refine hK _ _ hS2 ?_
     clear hK
     try simp only [Act.put, zq1, zq2, zq3, zq4, zq5, zq6]
     have qs200 : True := trivial
    rotate_left
    focus
     intro K hK
     try simp only [zq1, zq2, zq3]
     go_simp
     obtain ⟨V2, eV⟩ : ∃ W', V1.alloc (.cells #[.int .i64 0, .int .i64 0, .int .i64 0, .int .i64 0, .string ⟨#[]⟩, .slice none 0 0] 33) = W' := ⟨_, rfl⟩
     have hb : Below V1.heap.size V1 V2 := by rw [<- eV]; exact (Below.refl _ _).alloc (Nat.le_refl _) _
     have hx8 : Blk V2 V1.heap.size 33 #[.int .i64 0, .int .i64 0, .int .i64 0, .int .i64 0, .string ⟨#[]⟩, .slice none 0 0] := by rw [<- eV]; exact Blk.new _ _ _
     rw [eV]
     clear eV
     obtain ⟨x7, hp⟩ : ∃ p, V1.heap.size = p := ⟨_, rfl⟩
     rw [hp] at hx8 ⊢
     have hw8 : w2.heap.size <= x7 := by have := hR1.size; omega
     have hd80 : U0 <= x7 := by have := hu0; omega
     replace ht0 := ht0.bel (fun q h => h) hb
     replace hu0 := Nat.le_trans hu0 hb.size
     clear hp
     have hR2 := hR1.trans (hb.mono hR1.size)
     have hS2 := HRF.out _ hR2
     clear hb
     refine hK _ _ hS2 ?_
     clear hK
     try simp only [Act.put, zq1, zq2, zq3, zq4, zq5, zq6]
     have qs110 : True := trivial
    rotate_left
    focus
     intro K hK
     try simp only [zq1, zq2, zq3]
     go_simp
     obtain ⟨V2, eV⟩ : ∃ W', V1.alloc (.cells #[.int .i64 0, .int .i64 0, .int .i64 0, .int .i64 0, .string ⟨#[]⟩, .slice none 0 0] 33) = W' := ⟨_, rfl⟩
     have hb : Below V1.heap.size V1 V2 := by rw [<- eV]; exact (Below.refl _ _).alloc (Nat.le_refl _) _
     have hx9 : Blk V2 V1.heap.size 33 #[.int .i64 0, .int .i64 0, .int .i64 0, .int .i64 0, .string ⟨#[]⟩, .slice none 0 0] := by rw [<- eV]; exact Blk.new _ _ _
     rw [eV]
     clear eV
     obtain ⟨x8, hp⟩ : ∃ p, V1.heap.size = p := ⟨_, rfl⟩
     rw [hp] at hx9 ⊢
     have hw9 : w2.heap.size <= x8 := by have := hR1.size; omega
     have hd90 : U0 <= x8 := by have := hu0; omega
     replace ht0 := ht0.bel (fun q h => h) hb
     replace hu0 := Nat.le_trans hu0 hb.size
     clear hp
     have hR2 := hR1.trans (hb.mono hR1.size)
     have hS2 := HRF.out _ hR2
     clear hb
     refine hK _ _ hS2 ?_
     clear hK
     try simp only [Act.put, zq1, zq2, zq3, zq4, zq5, zq6]
     have qs101 : True := trivial)
   all_goals try (
    clear qs011
    refine anyX_g (i := 3) (by kernel_rfl) (by decide) rfl (by rfl) ?_
    intro K hK
    try simp only [zq1, zq2, zq3]
    refine wp_enterE #[.agg #[.int .i64 ka, .int .i64 na, .slice uA un uc], .bool false] Tryz.func16 (by kernel_rfl) (by kernel_rfl) ?_ (HMA.out V2 hR2) ?_
    ·go_simp
    rintro e V3 ⟨v, rfl, hhd, ht0, hb⟩
    refine ⟨_, rfl, ?_⟩
    obtain ⟨k0, lo0, hi0, wt0, nm0, A0, n0, c0, rfl⟩ := hhd
    obtain ⟨L0, hL⟩ : ∃ L, V2.heap.size = L := ⟨_, rfl⟩
    obtain ⟨U0, hU⟩ : ∃ L, V3.heap.size = L := ⟨_, rfl⟩
    replace ht0 : TreeV true V3 (fun q => L0 <= q /\ q < U0) (.agg #[.int .i64 k0, .int .i64 lo0, .int .i64 hi0, .int .i64 wt0, .string nm0, .slice A0 n0 c0]) ta := ht0.bound.keep (fun q h => ⟨by rw [<- hL]; exact h.1, by rw [<- hU]; exact h.2⟩) (fun _ _ _ _ h => h)
    have hu0 : U0 <= V3.heap.size := Nat.le_of_eq hU.symm
    have hd80 : x7 < L0 := by have := hx8.lt; omega
    have hd90 : x8 < L0 := by have := hx9.lt; omega
    replace hx8 := Blk.below hx8 hb hx8.lt
    replace hx9 := Blk.below hx9 hb hx9.lt
    clear hL hU
    have hR3 := hR2.trans (hb.mono hR2.size)
    have hS3 := HRF.out _ hR3
    clear hb
    refine hK _ _ hS3 ?_
    clear hK
    try simp only [Act.put, zq1, zq2, zq3, zq4, zq5, zq6]
    have qs111 : True := trivial)
   all_goals try (
    clear qs110
    refine anyX_2 (i := 7) (j := 9) (by kernel_rfl) (by decide) (by decide) rfl rfl rfl rfl ?_ ?_
    focus
     intro K hK
     try simp only [zq1, zq2, zq3]
     refine wp_enterE #[.agg #[.int .i64 kb, .int .i64 nb, .slice vA vn vc], .bool false] Tryz.func16 (by kernel_rfl) (by kernel_rfl) ?_ (HMB.out V2 hR2) ?_
     ·go_simp
     rintro e V3 ⟨v, rfl, hhd, ht1, hb⟩
     refine ⟨_, rfl, ?_⟩
     obtain ⟨k1, lo1, hi1, wt1, nm1, A1, n1, c1, rfl⟩ := hhd
     obtain ⟨L1, hL⟩ : ∃ L, V2.heap.size = L := ⟨_, rfl⟩
     obtain ⟨U1, hU⟩ : ∃ L, V3.heap.size = L := ⟨_, rfl⟩
     replace ht1 : TreeV true V3 (fun q => L1 <= q /\ q < U1) (.agg #[.int .i64 k1, .int .i64 lo1, .int .i64 hi1, .int .i64 wt1, .string nm1, .slice A1 n1 c1]) tb := ht1.bound.keep (fun q h => ⟨by rw [<- hL]; exact h.1, by rw [<- hU]; exact h.2⟩) (fun _ _ _ _ h => h)
     have hu1 : U1 <= V3.heap.size := Nat.le_of_eq hU.symm
     have hd81 : x7 < L1 := by have := hx8.lt; omega
     replace hx8 := Blk.below hx8 hb hx8.lt
     replace ht0 := ht0.bel (fun q h => h) hb
     replace hu0 := Nat.le_trans hu0 hb.size
     clear hL hU
     have hR3 := hR2.trans (hb.mono hR2.size)
     have hS3 := HRF.out _ hR3
     clear hb
     refine hK _ _ hS3 ?_
     clear hK
     try simp only [Act.put, zq1, zq2, zq3, zq4, zq5, zq6]
     have qs210 : True := trivial
    rotate_left
    focus
     intro K hK
     try simp only [zq1, zq2, zq3]
     go_simp
     obtain ⟨V3, eV⟩ : ∃ W', V2.alloc (.cells #[.int .i64 0, .int .i64 0, .int .i64 0, .int .i64 0, .string ⟨#[]⟩, .slice none 0 0] 33) = W' := ⟨_, rfl⟩
     have hb : Below V2.heap.size V2 V3 := by rw [<- eV]; exact (Below.refl _ _).alloc (Nat.le_refl _) _
     have hx9 : Blk V3 V2.heap.size 33 #[.int .i64 0, .int .i64 0, .int .i64 0, .int .i64 0, .string ⟨#[]⟩, .slice none 0 0] := by rw [<- eV]; exact Blk.new _ _ _
     rw [eV]
     clear eV
     obtain ⟨x8, hp⟩ : ∃ p, V2.heap.size = p := ⟨_, rfl⟩
     rw [hp] at hx9 ⊢
     have hw9 : w2.heap.size <= x8 := by have := hR2.size; omega
     have hd90 : U0 <= x8 := by have := hu0; omega
     have hne : x7 ≠ x8 := by have := hx8.lt; omega
     replace hx8 := Blk.below hx8 hb hx8.lt
     replace ht0 := ht0.bel (fun q h => h) hb
     replace hu0 := Nat.le_trans hu0 hb.size
     clear hp
     have hR3 := hR2.trans (hb.mono hR2.size)
     have hS3 := HRF.out _ hR3
     clear hb
     refine hK _ _ hS3 ?_
     clear hK
     try simp only [Act.put, zq1, zq2, zq3, zq4, zq5, zq6]
     have qs111 : True := trivial)
   all_goals try (
    clear qs101
    refine anyX_2 (i := 7) (j := 8) (by kernel_rfl) (by decide) (by decide) rfl rfl rfl rfl ?_ ?_
    focus
     intro K hK
     try simp only [zq1, zq2, zq3]
     refine wp_enterE #[.agg #[.int .i64 kb, .int .i64 nb, .slice vA vn vc], .bool false] Tryz.func16 (by kernel_rfl) (by kernel_rfl) ?_ (HMB.out V2 hR2) ?_
     ·go_simp
     rintro e V3 ⟨v, rfl, hhd, ht1, hb⟩
     refine ⟨_, rfl, ?_⟩
     obtain ⟨k1, lo1, hi1, wt1, nm1, A1, n1, c1, rfl⟩ := hhd
     obtain ⟨L1, hL⟩ : ∃ L, V2.heap.size = L := ⟨_, rfl⟩
     obtain ⟨U1, hU⟩ : ∃ L, V3.heap.size = L := ⟨_, rfl⟩
     replace ht1 : TreeV true V3 (fun q => L1 <= q /\ q < U1) (.agg #[.int .i64 k1, .int .i64 lo1, .int .i64 hi1, .int .i64 wt1, .string nm1, .slice A1 n1 c1]) tb := ht1.bound.keep (fun q h => ⟨by rw [<- hL]; exact h.1, by rw [<- hU]; exact h.2⟩) (fun _ _ _ _ h => h)
     have hu1 : U1 <= V3.heap.size := Nat.le_of_eq hU.symm
     have hd91 : x8 < L1 := by have := hx9.lt; omega
     replace hx9 := Blk.below hx9 hb hx9.lt
     replace ht0 := ht0.bel (fun q h => h) hb
     replace hu0 := Nat.le_trans hu0 hb.size
     clear hL hU
     have hR3 := hR2.trans (hb.mono hR2.size)
     have hS3 := HRF.out _ hR3
     clear hb
     refine hK _ _ hS3 ?_
     clear hK
     try simp only [Act.put, zq1, zq2, zq3, zq4, zq5, zq6]
     have qs201 : True := trivial
    rotate_left
    focus
     intro K hK
     try simp only [zq1, zq2, zq3]
     go_simp
     obtain ⟨V3, eV⟩ : ∃ W', V2.alloc (.cells #[.int .i64 0, .int .i64 0, .int .i64 0, .int .i64 0, .string ⟨#[]⟩, .slice none 0 0] 33) = W' := ⟨_, rfl⟩
     have hb : Below V2.heap.size V2 V3 := by rw [<- eV]; exact (Below.refl _ _).alloc (Nat.le_refl _) _
     have hx8 : Blk V3 V2.heap.size 33 #[.int .i64 0, .int .i64 0, .int .i64 0, .int .i64 0, .string ⟨#[]⟩, .slice none 0 0] := by rw [<- eV]; exact Blk.new _ _ _
     rw [eV]
     clear eV
     obtain ⟨x7, hp⟩ : ∃ p, V2.heap.size = p := ⟨_, rfl⟩
     rw [hp] at hx8 ⊢
     have hw8 : w2.heap.size <= x7 := by have := hR2.size; omega
     have hd80 : U0 <= x7 := by have := hu0; omega
     have hne : x7 ≠ x8 := by have := hx9.lt; omega
     replace hx9 := Blk.below hx9 hb hx9.lt
     replace ht0 := ht0.bel (fun q h => h) hb
     replace hu0 := Nat.le_trans hu0 hb.size
     clear hp
     have hR3 := hR2.trans (hb.mono hR2.size)
     have hS3 := HRF.out _ hR3
     clear hb
     refine hK _ _ hS3 ?_
     clear hK
     try simp only [Act.put, zq1, zq2, zq3, zq4, zq5, zq6]
     have qs111 : True := trivial)
   all_goals try (
    clear qs200
    refine anyX_2 (i := 8) (j := 9) (by kernel_rfl) (by decide) (by decide) rfl rfl rfl rfl ?_ ?_
    focus
     intro K hK
     try simp only [zq1, zq2, zq3]
     go_simp
     obtain ⟨V3, eV⟩ : ∃ W', V2.alloc (.cells #[.int .i64 0, .int .i64 0, .int .i64 0, .int .i64 0, .string ⟨#[]⟩, .slice none 0 0] 33) = W' := ⟨_, rfl⟩
     have hb : Below V2.heap.size V2 V3 := by rw [<- eV]; exact (Below.refl _ _).alloc (Nat.le_refl _) _
     have hx8 : Blk V3 V2.heap.size 33 #[.int .i64 0, .int .i64 0, .int .i64 0, .int .i64 0, .string ⟨#[]⟩, .slice none 0 0] := by rw [<- eV]; exact Blk.new _ _ _
     rw [eV]
     clear eV
     obtain ⟨x7, hp⟩ : ∃ p, V2.heap.size = p := ⟨_, rfl⟩
     rw [hp] at hx8 ⊢
     have hw8 : w2.heap.size <= x7 := by have := hR2.size; omega
     have hd80 : U0 <= x7 := by have := hu0; omega
     have hd81 : U1 <= x7 := by have := hu1; omega
     replace ht0 := ht0.bel (fun q h => h) hb
     replace hu0 := Nat.le_trans hu0 hb.size
     replace ht1 := ht1.bel (fun q h => h) hb
     replace hu1 := Nat.le_trans hu1 hb.size
     clear hp
     have hR3 := hR2.trans (hb.mono hR2.size)
     have hS3 := HRF.out _ hR3
     clear hb
     refine hK _ _ hS3 ?_
     clear hK
     try simp only [Act.put, zq1, zq2, zq3, zq4, zq5, zq6]
     have qs210 : True := trivial
    rotate_left
    focus
     intro K hK
     try simp only [zq1, zq2, zq3]
     go_simp
     obtain ⟨V3, eV⟩ : ∃ W', V2.alloc (.cells #[.int .i64 0, .int .i64 0, .int .i64 0, .int .i64 0, .string ⟨#[]⟩, .slice none 0 0] 33) = W' := ⟨_, rfl⟩
     have hb : Below V2.heap.size V2 V3 := by rw [<- eV]; exact (Below.refl _ _).alloc (Nat.le_refl _) _
     have hx9 : Blk V3 V2.heap.size 33 #[.int .i64 0, .int .i64 0, .int .i64 0, .int .i64 0, .string ⟨#[]⟩, .slice none 0 0] := by rw [<- eV]; exact Blk.new _ _ _
     rw [eV]
     clear eV
     obtain ⟨x8, hp⟩ : ∃ p, V2.heap.size = p := ⟨_, rfl⟩
     rw [hp] at hx9 ⊢
     have hw9 : w2.heap.size <= x8 := by have := hR2.size; omega
     have hd90 : U0 <= x8 := by have := hu0; omega
     have hd91 : U1 <= x8 := by have := hu1; omega
     replace ht0 := ht0.bel (fun q h => h) hb
     replace hu0 := Nat.le_trans hu0 hb.size
     replace ht1 := ht1.bel (fun q h => h) hb
     replace hu1 := Nat.le_trans hu1 hb.size
     clear hp
     have hR3 := hR2.trans (hb.mono hR2.size)
     have hS3 := HRF.out _ hR3
     clear hb
     refine hK _ _ hS3 ?_
     clear hK
     try simp only [Act.put, zq1, zq2, zq3, zq4, zq5, zq6]
     have qs201 : True := trivial)
   all_goals try (
    clear qs111
    refine anyX_g (i := 7) (by kernel_rfl) (by decide) rfl (by rfl) ?_
    intro K hK
    try simp only [zq1, zq2, zq3]
    refine wp_enterE #[.agg #[.int .i64 kb, .int .i64 nb, .slice vA vn vc], .bool false] Tryz.func16 (by kernel_rfl) (by kernel_rfl) ?_ (HMB.out V3 hR3) ?_
    ·go_simp
    rintro e V4 ⟨v, rfl, hhd, ht1, hb⟩
    refine ⟨_, rfl, ?_⟩
    obtain ⟨k1, lo1, hi1, wt1, nm1, A1, n1, c1, rfl⟩ := hhd
    obtain ⟨L1, hL⟩ : ∃ L, V3.heap.size = L := ⟨_, rfl⟩
    obtain ⟨U1, hU⟩ : ∃ L, V4.heap.size = L := ⟨_, rfl⟩
    replace ht1 : TreeV true V4 (fun q => L1 <= q /\ q < U1) (.agg #[.int .i64 k1, .int .i64 lo1, .int .i64 hi1, .int .i64 wt1, .string nm1, .slice A1 n1 c1]) tb := ht1.bound.keep (fun q h => ⟨by rw [<- hL]; exact h.1, by rw [<- hU]; exact h.2⟩) (fun _ _ _ _ h => h)
    have hu1 : U1 <= V4.heap.size := Nat.le_of_eq hU.symm
    have hd81 : x7 < L1 := by have := hx8.lt; omega
    have hd91 : x8 < L1 := by have := hx9.lt; omega
    replace hx8 := Blk.below hx8 hb hx8.lt
    replace hx9 := Blk.below hx9 hb hx9.lt
    replace ht0 := ht0.bel (fun q h => h) hb
    replace hu0 := Nat.le_trans hu0 hb.size
    clear hL hU
    have hR4 := hR3.trans (hb.mono hR3.size)
    have hS4 := HRF.out _ hR4
    clear hb
    refine hK _ _ hS4 ?_
    clear hK
    try simp only [Act.put, zq1, zq2, zq3, zq4, zq5, zq6]
    have qs211 : True := trivial)
   all_goals try (
    clear qs210
    refine anyX_g (i := 9) (by kernel_rfl) (by decide) rfl (by rfl) ?_
    intro K hK
    try simp only [zq1, zq2, zq3]
    go_simp
    obtain ⟨V4, eV⟩ : ∃ W', V3.alloc (.cells #[.int .i64 0, .int .i64 0, .int .i64 0, .int .i64 0, .string ⟨#[]⟩, .slice none 0 0] 33) = W' := ⟨_, rfl⟩
    have hb : Below V3.heap.size V3 V4 := by rw [<- eV]; exact (Below.refl _ _).alloc (Nat.le_refl _) _
    have hx9 : Blk V4 V3.heap.size 33 #[.int .i64 0, .int .i64 0, .int .i64 0, .int .i64 0, .string ⟨#[]⟩, .slice none 0 0] := by rw [<- eV]; exact Blk.new _ _ _
    rw [eV]
    clear eV
    obtain ⟨x8, hp⟩ : ∃ p, V3.heap.size = p := ⟨_, rfl⟩
    rw [hp] at hx9 ⊢
    have hw9 : w2.heap.size <= x8 := by have := hR3.size; omega
    have hd90 : U0 <= x8 := by have := hu0; omega
    have hd91 : U1 <= x8 := by have := hu1; omega
    have hne : x7 ≠ x8 := by have := hx8.lt; omega
    replace hx8 := Blk.below hx8 hb hx8.lt
    replace ht0 := ht0.bel (fun q h => h) hb
    replace hu0 := Nat.le_trans hu0 hb.size
    replace ht1 := ht1.bel (fun q h => h) hb
    replace hu1 := Nat.le_trans hu1 hb.size
    clear hp
    have hR4 := hR3.trans (hb.mono hR3.size)
    have hS4 := HRF.out _ hR4
    clear hb
    refine hK _ _ hS4 ?_
    clear hK
    try simp only [Act.put, zq1, zq2, zq3, zq4, zq5, zq6]
    have qs211 : True := trivial)
   all_goals try (
    clear qs201
    refine anyX_g (i := 8) (by kernel_rfl) (by decide) rfl (by rfl) ?_
    intro K hK
    try simp only [zq1, zq2, zq3]
    go_simp
    obtain ⟨V4, eV⟩ : ∃ W', V3.alloc (.cells #[.int .i64 0, .int .i64 0, .int .i64 0, .int .i64 0, .string ⟨#[]⟩, .slice none 0 0] 33) = W' := ⟨_, rfl⟩
    have hb : Below V3.heap.size V3 V4 := by rw [<- eV]; exact (Below.refl _ _).alloc (Nat.le_refl _) _
    have hx8 : Blk V4 V3.heap.size 33 #[.int .i64 0, .int .i64 0, .int .i64 0, .int .i64 0, .string ⟨#[]⟩, .slice none 0 0] := by rw [<- eV]; exact Blk.new _ _ _
    rw [eV]
    clear eV
    obtain ⟨x7, hp⟩ : ∃ p, V3.heap.size = p := ⟨_, rfl⟩
    rw [hp] at hx8 ⊢
    have hw8 : w2.heap.size <= x7 := by have := hR3.size; omega
    have hd80 : U0 <= x7 := by have := hu0; omega
    have hd81 : U1 <= x7 := by have := hu1; omega
    have hne : x7 ≠ x8 := by have := hx9.lt; omega
    replace hx9 := Blk.below hx9 hb hx9.lt
    replace ht0 := ht0.bel (fun q h => h) hb
    replace hu0 := Nat.le_trans hu0 hb.size
    replace ht1 := ht1.bel (fun q h => h) hb
    replace hu1 := Nat.le_trans hu1 hb.size
    clear hp
    have hR4 := hR3.trans (hb.mono hR3.size)
    have hS4 := HRF.out _ hR4
    clear hb
    refine hK _ _ hS4 ?_
    clear hK
    try simp only [Act.put, zq1, zq2, zq3, zq4, zq5, zq6]
    have qs211 : True := trivial)
   all_goals (
    have hlf := HLF ⟨x7, x8, k0, lo0, hi0, wt0, nm0, A0, n0, c0, k1, lo1, hi1, wt1, nm1, A1, n1, c1⟩ V4 ⟨hR4, hne, hx8, hx9, ht0.keep (S' := fun q => q ≠ x7 /\ q ≠ x8) (fun q h => ⟨by omega, by omega⟩) (fun _ _ _ _ h => h), ht1.keep (S' := fun q => q ≠ x7 /\ q ≠ x8) (fun q h => ⟨by omega, by omega⟩) (fun _ _ _ _ h => h), hw8, hw9, hS4⟩
    dsimp only at hlf
    simp only [Act.put, zq1, zq2, zq3, zq4, zq5, zq6] at hlf
    exact hlf)
  ·rintro ⟨x7, x8, k0, lo0, hi0, wt0, nm0, A0, n0, c0, k1, lo1, hi1, wt1, nm1, A1, n1, c1⟩ W ⟨h1, hne, h2, h3, h4, h5⟩
   dsimp only at hne h2 h3 h4 h5 ⊢
   try simp only [Act.put, zq1, zq2, zq3, zq4, zq5, zq6]
   clear HMA HMB HRF
   have hks : ∀ V : World, Below W.heap.size W V -> (fun w' : World => w'.cell? ⟨x7, 0, none⟩ = some (.int .i64 k0) /\ w'.cell? ⟨x7, 1, none⟩ = some (.int .i64 lo0) /\ w'.cell? ⟨x7, 2, none⟩ = some (.int .i64 hi0) /\ w'.cell? ⟨x7, 3, none⟩ = some (.int .i64 wt0) /\ w'.cell? ⟨x7, 4, none⟩ = some (.string nm0) /\ w'.cell? ⟨x7, 5, none⟩ = some (.slice A0 n0 c0) /\ w'.cell? ⟨x8, 0, none⟩ = some (.int .i64 k1) /\ w'.cell? ⟨x8, 1, none⟩ = some (.int .i64 lo1) /\ w'.cell? ⟨x8, 2, none⟩ = some (.int .i64 hi1) /\ w'.cell? ⟨x8, 3, none⟩ = some (.int .i64 wt1) /\ w'.cell? ⟨x8, 4, none⟩ = some (.string nm1) /\ w'.cell? ⟨x8, 5, none⟩ = some (.slice A1 n1 c1)) V := fun V hV => ⟨bel_q hV (Blk.cell h2 0), bel_q hV (Blk.cell h2 1), bel_q hV (Blk.cell h2 2), bel_q hV (Blk.cell h2 3), bel_q hV (Blk.cell h2 4), bel_q hV (Blk.cell h2 5), bel_q hV (Blk.cell h3 0), bel_q hV (Blk.cell h3 1), bel_q hV (Blk.cell h3 2), bel_q hV (Blk.cell h3 3), bel_q hV (Blk.cell h3 4), bel_q hV (Blk.cell h3 5)⟩
   have hta : ∀ V : World, Below W.heap.size W V -> TreeV true V (fun q => q ≠ x7 /\ q ≠ x8) (.agg #[.int .i64 k0, .int .i64 lo0, .int .i64 hi0, .int .i64 wt0, .string nm0, .slice A0 n0 c0]) ta := fun V hV => h4.bel (fun _ h => h) hV
   have htb : ∀ V : World, Below W.heap.size W V -> TreeV true V (fun q => q ≠ x7 /\ q ≠ x8) (.agg #[.int .i64 k1, .int .i64 lo1, .int .i64 hi1, .int .i64 wt1, .string nm1, .slice A1 n1 c1]) tb := fun V hV => h5.bel (fun _ h => h) hV
   have HKS := Lib.hid hks; have HTA := Lib.hid hta; have HTB := Lib.hid htb; have HBW := Lib.hid (HB1.out.trans (h1.mono HB1.out.size))
   clear hks hta htb h1 h2 h3 h4 h5 HB1
   go_simp
   try apply_assumption
   go_wp2_with fail
   refine region_x 5 (fun w' : World => w'.cell? ⟨x7, 0, none⟩ = some (.int .i64 k0) /\ w'.cell? ⟨x7, 1, none⟩ = some (.int .i64 lo0) /\ w'.cell? ⟨x7, 2, none⟩ = some (.int .i64 hi0) /\ w'.cell? ⟨x7, 3, none⟩ = some (.int .i64 wt0) /\ w'.cell? ⟨x7, 4, none⟩ = some (.string nm0) /\ w'.cell? ⟨x7, 5, none⟩ = some (.slice A0 n0 c0) /\ w'.cell? ⟨x8, 0, none⟩ = some (.int .i64 k1) /\ w'.cell? ⟨x8, 1, none⟩ = some (.int .i64 lo1) /\ w'.cell? ⟨x8, 2, none⟩ = some (.int .i64 hi1) /\ w'.cell? ⟨x8, 3, none⟩ = some (.int .i64 wt1) /\ w'.cell? ⟨x8, 4, none⟩ = some (.string nm1) /\ w'.cell? ⟨x8, 5, none⟩ = some (.slice A1 n1 c1)) (by kernel_rfl) ?_
   have hR0 : Below W.heap.size W W.drew := (Below.refl _ _).drew
   have hS0 := HKS.out _ hR0
   obtain ⟨V0, eV⟩ : ∃ W', W.drew = W' := ⟨_, rfl⟩
   rw [eV] at hR0 hS0 ⊢
   clear eV
   refine tkx (i := 0) (v := ?_) hS0 ?_ ?_
   rotate_left
   ·rintro w' ⟨b0, b1, b2, b3, b4, b5, b6, b7, b8, b9, b10, b11⟩
    go_simp
    try with_reducible rfl
   try simp only [Act.put, zq1, zq2, zq3, zq4, zq5, zq6]
   refine tkx (i := 2) (v := ?_) hS0 ?_ ?_
   rotate_left
   ·rintro w' ⟨b0, b1, b2, b3, b4, b5, b6, b7, b8, b9, b10, b11⟩
    go_simp
    try with_reducible rfl
   try simp only [Act.put, zq1, zq2, zq3, zq4, zq5, zq6]
   refine anyX_g (i := 1) (by kernel_rfl) (by decide) rfl (by rfl) ?_
   intro K hK
   try simp only [zq1, zq2, zq3]
   refine wp_enterE #[.agg #[.int .i64 k0, .int .i64 lo0, .int .i64 hi0, .int .i64 wt0, .string nm0, .slice A0 n0 c0]] Tryz.func20 (by kernel_rfl) (by kernel_rfl) ?_ (HSA.out V0 _ _ (HTA.out V0 hR0)) ?_
   ·go_simp
   rintro e w4 ⟨rfl, hb4⟩
   refine ⟨_, rfl, ?_⟩
   have hR4 := hR0.trans (hb4.mono hR0.size)
   have hS4 := HKS.out _ hR4
   clear hb4
   refine hK _ _ hS4 ?_
   clear hK
   try simp only [Act.put, zq1, zq2, zq3, zq4, zq5, zq6]
   refine anyX_g (i := 3) (by kernel_rfl) (by decide) rfl (by rfl) ?_
   intro K hK
   try simp only [zq1, zq2, zq3]
   refine wp_enterE #[.agg #[.int .i64 k1, .int .i64 lo1, .int .i64 hi1, .int .i64 wt1, .string nm1, .slice A1 n1 c1]] Tryz.func20 (by kernel_rfl) (by kernel_rfl) ?_ (HSB.out w4 _ _ (HTB.out w4 hR4)) ?_
   ·go_simp
   rintro e w5 ⟨rfl, hb5⟩
   refine ⟨_, rfl, ?_⟩
   have hR5 := hR4.trans (hb5.mono hR4.size)
   have hS5 := HKS.out _ hR5
   clear hb5
   refine hK _ _ hS5 ?_
   clear hK
   try simp only [Act.put, zq1, zq2, zq3, zq4, zq5, zq6]
   refine tkx (i := 4) (v := ?_) hS5 ?_ ?_
   rotate_left
   ·rintro w' ⟨b0, b1, b2, b3, b4, b5, b6, b7, b8, b9, b10, b11⟩
    go_simp
    try with_reducible rfl
   try simp only [Act.put, zq1, zq2, zq3, zq4, zq5, zq6]
   have HR5 := Lib.hid hR5
   clear hS0 hS4 hS5 hR0 hR4 hR5
   refine anyX_last (by kernel_rfl) (by kernel_rfl) rfl rfl ?_
   try simp only [zq1, zq2, zq3]
   go_simp
   try apply_assumption
   go_wp2_with fail
   refine (HWH.out _).mono ?_
   rintro e w6 ⟨rfl, rfl⟩
   have hshi := HSHI.out
   have hmw : IntKind.i64.wrap ((sa : Int) * (h : Int)) = (sh : Int) := by rw [HSHI.out]; exact IntWalk.i64_in _ (by omega)
   have hsw : IntKind.i64.wrap ((sa : Int) + (sb : Int)) = (sa : Int) + (sb : Int) := IntWalk.i64_in _ (by omega)
   have hshw : IntKind.i64.wrap (sh : Int) = (sh : Int) := IntWalk.i64_in _ (by omega)
   have hmn := HMN.out
   have hmni : min (q : Int) (h : Int) = (mn : Int) := by omega
   have hmnl : (if (h : Int) < (q : Int) then (h : Int) else (q : Int)) = (mn : Int) := by split <;> omega
   have HMNL := Lib.hid hmnl
   clear hmn hmnl
   go_wp2_with fail
   refine region_x 51 (fun w' : World => w'.cell? ⟨x7, 0, none⟩ = some (.int .i64 k0) /\ w'.cell? ⟨x7, 1, none⟩ = some (.int .i64 lo0) /\ w'.cell? ⟨x7, 2, none⟩ = some (.int .i64 hi0) /\ w'.cell? ⟨x7, 3, none⟩ = some (.int .i64 wt0) /\ w'.cell? ⟨x7, 4, none⟩ = some (.string nm0) /\ w'.cell? ⟨x7, 5, none⟩ = some (.slice A0 n0 c0) /\ w'.cell? ⟨x8, 0, none⟩ = some (.int .i64 k1) /\ w'.cell? ⟨x8, 1, none⟩ = some (.int .i64 lo1) /\ w'.cell? ⟨x8, 2, none⟩ = some (.int .i64 hi1) /\ w'.cell? ⟨x8, 3, none⟩ = some (.int .i64 wt1) /\ w'.cell? ⟨x8, 4, none⟩ = some (.string nm1) /\ w'.cell? ⟨x8, 5, none⟩ = some (.slice A1 n1 c1)) (by kernel_rfl) ?_
   have hR0 : Below W.heap.size W w5.drew := HR5.out.trans ((Below.refl _ _).drew.mono HR5.out.size)
   have hS0 := HKS.out _ hR0
   obtain ⟨V0, eV⟩ : ∃ W', w5.drew = W' := ⟨_, rfl⟩
   rw [eV] at hR0 hS0 ⊢
   clear eV
   refine tkx (i := 0) (v := ?_) hS0 ?_ ?_
   rotate_left
   ·rintro w' ⟨b0, b1, b2, b3, b4, b5, b6, b7, b8, b9, b10, b11⟩
    go_simp
    try with_reducible rfl
   try simp only [Act.put, zq1, zq2, zq3, zq4, zq5, zq6]
   refine tkx (i := 1) (v := ?_) hS0 ?_ ?_
   rotate_left
   ·rintro w' ⟨b0, b1, b2, b3, b4, b5, b6, b7, b8, b9, b10, b11⟩
    go_simp
    try with_reducible rfl
   try simp only [Act.put, zq1, zq2, zq3, zq4, zq5, zq6]
   refine tkx (i := 5) (v := .int .i64 (sa : Nat)) hS0 ?_ ?_
   ·rintro w' ⟨b0, b1, b2, b3, b4, b5, b6, b7, b8, b9, b10, b11⟩
    go_simp
    try with_reducible rfl
   try simp only [Act.put, zq1, zq2, zq3, zq4, zq5, zq6]
   refine tkx (i := 6) (v := .int .i64 (sb : Nat)) hS0 ?_ ?_
   ·rintro w' ⟨b0, b1, b2, b3, b4, b5, b6, b7, b8, b9, b10, b11⟩
    go_simp
    try with_reducible rfl
   try simp only [Act.put, zq1, zq2, zq3, zq4, zq5, zq6]
   refine tkx (i := 7) (v := .int .i64 ((sa : Nat) + (sb : Nat))) hS0 ?_ ?_
   ·rintro w' ⟨b0, b1, b2, b3, b4, b5, b6, b7, b8, b9, b10, b11⟩
    go_simp
    try with_reducible rfl
   try simp only [Act.put, zq1, zq2, zq3, zq4, zq5, zq6]
   refine anyX_g (i := 2) (by kernel_rfl) (by decide) rfl (by rfl) ?_
   intro K hK
   try simp only [zq1, zq2, zq3]
   go_simp
   obtain ⟨V1, eV⟩ : ∃ W', V0.alloc (.cells #[.int .i64 k0, .int .i64 lo0, .int .i64 hi0, .int .i64 wt0, .string nm0, .slice A0 n0 c0, .int .i64 k1, .int .i64 lo1, .int .i64 hi1, .int .i64 wt1, .string nm1, .slice A1 n1 c1] 33) = W' := ⟨_, rfl⟩
   have hb : Below V0.heap.size V0 V1 := by rw [<- eV]; exact (Below.refl _ _).alloc (Nat.le_refl _) _
   have hxl : Blk V1 V0.heap.size 33 #[.int .i64 k0, .int .i64 lo0, .int .i64 hi0, .int .i64 wt0, .string nm0, .slice A0 n0 c0, .int .i64 k1, .int .i64 lo1, .int .i64 hi1, .int .i64 wt1, .string nm1, .slice A1 n1 c1] := by rw [<- eV]; exact Blk.new _ _ _
   rw [eV]
   clear eV
   have hR1 := hR0.trans (hb.mono hR0.size)
   have hS1 := HKS.out _ hR1
   clear hb
   refine hK _ _ hS1 ?_
   clear hK
   try simp only [Act.put, zq1, zq2, zq3, zq4, zq5, zq6]
   refine tkx (i := 3) (v := .agg #[.int .i64 4, .int .i64 0, .int .i64 0, .int .i64 0, .string ⟨#[]⟩, .slice (some ⟨V0.heap.size, 0, none⟩) 2 2]) hS1 ?_ ?_
   ·rintro w' ⟨b0, b1, b2, b3, b4, b5, b6, b7, b8, b9, b10, b11⟩
    go_simp
    try with_reducible rfl
   try simp only [Act.put, zq1, zq2, zq3, zq4, zq5, zq6]
   refine anyX_g (i := 4) (by kernel_rfl) (by decide) rfl (by rfl) ?_
   intro K hK
   try simp only [zq1, zq2, zq3]
   refine wp_enterE #[.agg #[.int .i64 4, .int .i64 0, .int .i64 0, .int .i64 0, .string ⟨#[]⟩, .slice (some ⟨V0.heap.size, 0, none⟩) 2 2]] Tryz.func20 (by kernel_rfl) (by kernel_rfl) ?_ (HSC.out V1 _ _ (TreeV.two6 (S := fun _ => True) 4 hxl ((HTA.out V1 hR1).keep (S' := fun _ => True) (fun _ _ => trivial) (fun _ _ _ _ h => h)) ((HTB.out V1 hR1).keep (S' := fun _ => True) (fun _ _ => trivial) (fun _ _ _ _ h => h)) trivial)) ?_
   ·go_simp
   rintro e V2 ⟨rfl, hb⟩
   refine ⟨_, rfl, ?_⟩
   have hR2 := hR1.trans (hb.mono hR1.size)
   have hS2 := HKS.out _ hR2
   clear hb hxl
   rw [HEC.out]
   refine hK _ _ hS2 ?_
   clear hK
   try simp only [Act.put, zq1, zq2, zq3, zq4, zq5, zq6]
   refine tkx (i := 8) (v := .bool true) hS2 ?_ ?_
   ·rintro w' ⟨b0, b1, b2, b3, b4, b5, b6, b7, b8, b9, b10, b11⟩
    go_simp
    try with_reducible rfl
   try simp only [Act.put, zq1, zq2, zq3, zq4, zq5, zq6]
   refine tkx (i := 9) (v := .bool true) hS2 ?_ ?_
   ·rintro w' ⟨b0, b1, b2, b3, b4, b5, b6, b7, b8, b9, b10, b11⟩
    go_simp
    try with_reducible rfl
   try simp only [Act.put, zq1, zq2, zq3, zq4, zq5, zq6]
   refine tkx (i := 10) (v := ?_) hS2 ?_ ?_
   rotate_left
   ·rintro w' ⟨b0, b1, b2, b3, b4, b5, b6, b7, b8, b9, b10, b11⟩
    go_simp
    try with_reducible rfl
   try simp only [Act.put, zq1, zq2, zq3, zq4, zq5, zq6]
   refine tkx (i := 11) (v := ?_) hS2 ?_ ?_
   rotate_left
   ·rintro w' ⟨b0, b1, b2, b3, b4, b5, b6, b7, b8, b9, b10, b11⟩
    go_simp
    try with_reducible rfl
   try simp only [Act.put, zq1, zq2, zq3, zq4, zq5, zq6]
   refine tkx (i := 15) (v := .int .i64 (sa : Nat)) hS2 ?_ ?_
   ·rintro w' ⟨b0, b1, b2, b3, b4, b5, b6, b7, b8, b9, b10, b11⟩
    go_simp
    try with_reducible rfl
   try simp only [Act.put, zq1, zq2, zq3, zq4, zq5, zq6]
   refine tkx (i := 16) (v := .int .i64 (sb : Nat)) hS2 ?_ ?_
   ·rintro w' ⟨b0, b1, b2, b3, b4, b5, b6, b7, b8, b9, b10, b11⟩
    go_simp
    try with_reducible rfl
   try simp only [Act.put, zq1, zq2, zq3, zq4, zq5, zq6]
   refine tkx (i := 17) (v := .int .i64 ((sa : Nat) + (sb : Nat))) hS2 ?_ ?_
   ·rintro w' ⟨b0, b1, b2, b3, b4, b5, b6, b7, b8, b9, b10, b11⟩
    go_simp
    try with_reducible rfl
   try simp only [Act.put, zq1, zq2, zq3, zq4, zq5, zq6]
   refine anyX_g (i := 12) (by kernel_rfl) (by decide) rfl (by rfl) ?_
   intro K hK
   try simp only [zq1, zq2, zq3]
   go_simp
   obtain ⟨V3, eV⟩ : ∃ W', V2.alloc (.cells #[.int .i64 k0, .int .i64 lo0, .int .i64 hi0, .int .i64 wt0, .string nm0, .slice A0 n0 c0, .int .i64 k1, .int .i64 lo1, .int .i64 hi1, .int .i64 wt1, .string nm1, .slice A1 n1 c1] 33) = W' := ⟨_, rfl⟩
   have hb : Below V2.heap.size V2 V3 := by rw [<- eV]; exact (Below.refl _ _).alloc (Nat.le_refl _) _
   have hxl : Blk V3 V2.heap.size 33 #[.int .i64 k0, .int .i64 lo0, .int .i64 hi0, .int .i64 wt0, .string nm0, .slice A0 n0 c0, .int .i64 k1, .int .i64 lo1, .int .i64 hi1, .int .i64 wt1, .string nm1, .slice A1 n1 c1] := by rw [<- eV]; exact Blk.new _ _ _
   rw [eV]
   clear eV
   have hR3 := hR2.trans (hb.mono hR2.size)
   have hS3 := HKS.out _ hR3
   clear hb
   refine hK _ _ hS3 ?_
   clear hK
   try simp only [Act.put, zq1, zq2, zq3, zq4, zq5, zq6]
   refine tkx (i := 13) (v := .agg #[.int .i64 5, .int .i64 0, .int .i64 0, .int .i64 0, .string ⟨#[]⟩, .slice (some ⟨V2.heap.size, 0, none⟩) 2 2]) hS3 ?_ ?_
   ·rintro w' ⟨b0, b1, b2, b3, b4, b5, b6, b7, b8, b9, b10, b11⟩
    go_simp
    try with_reducible rfl
   try simp only [Act.put, zq1, zq2, zq3, zq4, zq5, zq6]
   refine anyX_g (i := 14) (by kernel_rfl) (by decide) rfl (by rfl) ?_
   intro K hK
   try simp only [zq1, zq2, zq3]
   refine wp_enterE #[.agg #[.int .i64 5, .int .i64 0, .int .i64 0, .int .i64 0, .string ⟨#[]⟩, .slice (some ⟨V2.heap.size, 0, none⟩) 2 2]] Tryz.func20 (by kernel_rfl) (by kernel_rfl) ?_ (HSL.out V3 _ _ (TreeV.two6 (S := fun _ => True) 5 hxl ((HTA.out V3 hR3).keep (S' := fun _ => True) (fun _ _ => trivial) (fun _ _ _ _ h => h)) ((HTB.out V3 hR3).keep (S' := fun _ => True) (fun _ _ => trivial) (fun _ _ _ _ h => h)) trivial)) ?_
   ·go_simp
   rintro e V4 ⟨rfl, hb⟩
   refine ⟨_, rfl, ?_⟩
   have hR4 := hR3.trans (hb.mono hR3.size)
   have hS4 := HKS.out _ hR4
   clear hb hxl
   rw [HEL.out]
   refine hK _ _ hS4 ?_
   clear hK
   try simp only [Act.put, zq1, zq2, zq3, zq4, zq5, zq6]
   refine tkx (i := 18) (v := .bool true) hS4 ?_ ?_
   ·rintro w' ⟨b0, b1, b2, b3, b4, b5, b6, b7, b8, b9, b10, b11⟩
    go_simp
    try with_reducible rfl
   try simp only [Act.put, zq1, zq2, zq3, zq4, zq5, zq6]
   refine tkx (i := 19) (v := .bool true) hS4 ?_ ?_
   ·rintro w' ⟨b0, b1, b2, b3, b4, b5, b6, b7, b8, b9, b10, b11⟩
    go_simp
    try with_reducible rfl
   try simp only [Act.put, zq1, zq2, zq3, zq4, zq5, zq6]
   refine tkx (i := 20) (v := .bool true) hS4 ?_ ?_
   ·rintro w' ⟨b0, b1, b2, b3, b4, b5, b6, b7, b8, b9, b10, b11⟩
    go_simp
    try with_reducible rfl
   try simp only [Act.put, zq1, zq2, zq3, zq4, zq5, zq6]
   refine tkx (i := 21) (v := ?_) hS4 ?_ ?_
   rotate_left
   ·rintro w' ⟨b0, b1, b2, b3, b4, b5, b6, b7, b8, b9, b10, b11⟩
    go_simp
    try with_reducible rfl
   try simp only [Act.put, zq1, zq2, zq3, zq4, zq5, zq6]
   refine tkx (i := 25) (v := .int .i64 (sa : Nat)) hS4 ?_ ?_
   ·rintro w' ⟨b0, b1, b2, b3, b4, b5, b6, b7, b8, b9, b10, b11⟩
    go_simp
    try with_reducible rfl
   try simp only [Act.put, zq1, zq2, zq3, zq4, zq5, zq6]
   refine anyX_g (i := 22) (by kernel_rfl) (by decide) rfl (by rfl) ?_
   intro K hK
   try simp only [zq1, zq2, zq3]
   go_simp
   obtain ⟨V5, eV⟩ : ∃ W', V4.alloc (.cells #[.int .i64 k0, .int .i64 lo0, .int .i64 hi0, .int .i64 wt0, .string nm0, .slice A0 n0 c0] 33) = W' := ⟨_, rfl⟩
   have hb : Below V4.heap.size V4 V5 := by rw [<- eV]; exact (Below.refl _ _).alloc (Nat.le_refl _) _
   have hxl : Blk V5 V4.heap.size 33 #[.int .i64 k0, .int .i64 lo0, .int .i64 hi0, .int .i64 wt0, .string nm0, .slice A0 n0 c0] := by rw [<- eV]; exact Blk.new _ _ _
   rw [eV]
   clear eV
   have hR5 := hR4.trans (hb.mono hR4.size)
   have hS5 := HKS.out _ hR5
   clear hb
   refine hK _ _ hS5 ?_
   clear hK
   try simp only [Act.put, zq1, zq2, zq3, zq4, zq5, zq6]
   refine tkx (i := 23) (v := .agg #[.int .i64 6, .int .i64 0, .int .i64 0, .int .i64 0, .string ⟨#[]⟩, .slice (some ⟨V4.heap.size, 0, none⟩) 1 1]) hS5 ?_ ?_
   ·rintro w' ⟨b0, b1, b2, b3, b4, b5, b6, b7, b8, b9, b10, b11⟩
    go_simp
    try with_reducible rfl
   try simp only [Act.put, zq1, zq2, zq3, zq4, zq5, zq6]
   refine anyX_g (i := 24) (by kernel_rfl) (by decide) rfl (by rfl) ?_
   intro K hK
   try simp only [zq1, zq2, zq3]
   refine wp_enterE #[.agg #[.int .i64 6, .int .i64 0, .int .i64 0, .int .i64 0, .string ⟨#[]⟩, .slice (some ⟨V4.heap.size, 0, none⟩) 1 1]] Tryz.func20 (by kernel_rfl) (by kernel_rfl) ?_ (HSS.out V5 _ _ (TreeV.one6 (S := fun _ => True) 6 0 0 0 hxl ((HTA.out V5 hR5).keep (S' := fun _ => True) (fun _ _ => trivial) (fun _ _ _ _ h => h)) trivial)) ?_
   ·go_simp
   rintro e V6 ⟨rfl, hb⟩
   refine ⟨_, rfl, ?_⟩
   have hR6 := hR5.trans (hb.mono hR5.size)
   have hS6 := HKS.out _ hR6
   clear hb hxl
   rw [HES.out]
   refine hK _ _ hS6 ?_
   clear hK
   try simp only [Act.put, zq1, zq2, zq3, zq4, zq5, zq6]
   refine tkx (i := 26) (v := .bool true) hS6 ?_ ?_
   ·rintro w' ⟨b0, b1, b2, b3, b4, b5, b6, b7, b8, b9, b10, b11⟩
    go_simp
    try with_reducible rfl
   try simp only [Act.put, zq1, zq2, zq3, zq4, zq5, zq6]
   refine tkx (i := 27) (v := .bool true) hS6 ?_ ?_
   ·rintro w' ⟨b0, b1, b2, b3, b4, b5, b6, b7, b8, b9, b10, b11⟩
    go_simp
    try with_reducible rfl
   try simp only [Act.put, zq1, zq2, zq3, zq4, zq5, zq6]
   refine tkx (i := 28) (v := .bool true) hS6 ?_ ?_
   ·rintro w' ⟨b0, b1, b2, b3, b4, b5, b6, b7, b8, b9, b10, b11⟩
    go_simp
    try with_reducible rfl
   try simp only [Act.put, zq1, zq2, zq3, zq4, zq5, zq6]
   refine tkx (i := 29) (v := ?_) hS6 ?_ ?_
   rotate_left
   ·rintro w' ⟨b0, b1, b2, b3, b4, b5, b6, b7, b8, b9, b10, b11⟩
    go_simp
    try with_reducible rfl
   try simp only [Act.put, zq1, zq2, zq3, zq4, zq5, zq6]
   refine tkx (i := 33) (v := .int .i64 (sa : Nat)) hS6 ?_ ?_
   ·rintro w' ⟨b0, b1, b2, b3, b4, b5, b6, b7, b8, b9, b10, b11⟩
    go_simp
    try with_reducible rfl
   try simp only [Act.put, zq1, zq2, zq3, zq4, zq5, zq6]
   refine anyX_g (i := 30) (by kernel_rfl) (by decide) rfl (by rfl) ?_
   intro K hK
   try simp only [zq1, zq2, zq3]
   go_simp
   obtain ⟨V7, eV⟩ : ∃ W', V6.alloc (.cells #[.int .i64 k0, .int .i64 lo0, .int .i64 hi0, .int .i64 wt0, .string nm0, .slice A0 n0 c0] 33) = W' := ⟨_, rfl⟩
   have hb : Below V6.heap.size V6 V7 := by rw [<- eV]; exact (Below.refl _ _).alloc (Nat.le_refl _) _
   have hxl : Blk V7 V6.heap.size 33 #[.int .i64 k0, .int .i64 lo0, .int .i64 hi0, .int .i64 wt0, .string nm0, .slice A0 n0 c0] := by rw [<- eV]; exact Blk.new _ _ _
   rw [eV]
   clear eV
   have hR7 := hR6.trans (hb.mono hR6.size)
   have hS7 := HKS.out _ hR7
   clear hb
   refine hK _ _ hS7 ?_
   clear hK
   try simp only [Act.put, zq1, zq2, zq3, zq4, zq5, zq6]
   refine tkx (i := 31) (v := .agg #[.int .i64 8, .int .i64 0, .int .i64 0, .int .i64 3, .string ⟨#[]⟩, .slice (some ⟨V6.heap.size, 0, none⟩) 1 1]) hS7 ?_ ?_
   ·rintro w' ⟨b0, b1, b2, b3, b4, b5, b6, b7, b8, b9, b10, b11⟩
    go_simp
    try with_reducible rfl
   try simp only [Act.put, zq1, zq2, zq3, zq4, zq5, zq6]
   refine anyX_g (i := 32) (by kernel_rfl) (by decide) rfl (by rfl) ?_
   intro K hK
   try simp only [zq1, zq2, zq3]
   refine wp_enterE #[.agg #[.int .i64 8, .int .i64 0, .int .i64 0, .int .i64 3, .string ⟨#[]⟩, .slice (some ⟨V6.heap.size, 0, none⟩) 1 1]] Tryz.func20 (by kernel_rfl) (by kernel_rfl) ?_ (HSW.out V7 _ _ (TreeV.one6 (S := fun _ => True) 8 0 0 3 hxl ((HTA.out V7 hR7).keep (S' := fun _ => True) (fun _ _ => trivial) (fun _ _ _ _ h => h)) trivial)) ?_
   ·go_simp
   rintro e V8 ⟨rfl, hb⟩
   refine ⟨_, rfl, ?_⟩
   have hR8 := hR7.trans (hb.mono hR7.size)
   have hS8 := HKS.out _ hR8
   clear hb hxl
   rw [HEW.out]
   refine hK _ _ hS8 ?_
   clear hK
   try simp only [Act.put, zq1, zq2, zq3, zq4, zq5, zq6]
   refine tkx (i := 34) (v := .bool true) hS8 ?_ ?_
   ·rintro w' ⟨b0, b1, b2, b3, b4, b5, b6, b7, b8, b9, b10, b11⟩
    go_simp
    try with_reducible rfl
   try simp only [Act.put, zq1, zq2, zq3, zq4, zq5, zq6]
   refine tkx (i := 35) (v := .bool true) hS8 ?_ ?_
   ·rintro w' ⟨b0, b1, b2, b3, b4, b5, b6, b7, b8, b9, b10, b11⟩
    go_simp
    try with_reducible rfl
   try simp only [Act.put, zq1, zq2, zq3, zq4, zq5, zq6]
   refine tkx (i := 36) (v := .bool true) hS8 ?_ ?_
   ·rintro w' ⟨b0, b1, b2, b3, b4, b5, b6, b7, b8, b9, b10, b11⟩
    go_simp
    try with_reducible rfl
   try simp only [Act.put, zq1, zq2, zq3, zq4, zq5, zq6]
   refine tkx (i := 37) (v := ?_) hS8 ?_ ?_
   rotate_left
   ·rintro w' ⟨b0, b1, b2, b3, b4, b5, b6, b7, b8, b9, b10, b11⟩
    go_simp
    try with_reducible rfl
   try simp only [Act.put, zq1, zq2, zq3, zq4, zq5, zq6]
   refine tkx (i := 39) (v := .int .i64 a1) hS8 ?_ ?_
   ·rintro w' ⟨b0, b1, b2, b3, b4, b5, b6, b7, b8, b9, b10, b11⟩
    go_simp
    try with_reducible rfl
   try simp only [Act.put, zq1, zq2, zq3, zq4, zq5, zq6]
   refine tkx (i := 41) (v := .int .i64 (h : Nat)) hS8 ?_ ?_
   ·rintro w' ⟨b0, b1, b2, b3, b4, b5, b6, b7, b8, b9, b10, b11⟩
    go_simp
    try with_reducible rfl
   try simp only [Act.put, zq1, zq2, zq3, zq4, zq5, zq6]
   refine tkx (i := 43) (v := .int .i64 (h : Nat)) hS8 ?_ ?_
   ·rintro w' ⟨b0, b1, b2, b3, b4, b5, b6, b7, b8, b9, b10, b11⟩
    go_simp
    try with_reducible rfl
   try simp only [Act.put, zq1, zq2, zq3, zq4, zq5, zq6]
   refine tkx (i := 46) (v := .int .i64 (sa : Nat)) hS8 ?_ ?_
   ·rintro w' ⟨b0, b1, b2, b3, b4, b5, b6, b7, b8, b9, b10, b11⟩
    go_simp
    try with_reducible rfl
   try simp only [Act.put, zq1, zq2, zq3, zq4, zq5, zq6]
   refine tkx (i := 47) (v := .int .i64 (h : Nat)) hS8 ?_ ?_
   ·rintro w' ⟨b0, b1, b2, b3, b4, b5, b6, b7, b8, b9, b10, b11⟩
    go_simp
    try with_reducible rfl
   try simp only [Act.put, zq1, zq2, zq3, zq4, zq5, zq6]
   refine tkx (i := 48) (v := .int .i64 (sh : Nat)) hS8 ?_ ?_
   ·rintro w' ⟨b0, b1, b2, b3, b4, b5, b6, b7, b8, b9, b10, b11⟩
    go_simp
    try with_reducible rfl
   try simp only [Act.put, zq1, zq2, zq3, zq4, zq5, zq6]
   refine anyX_g2 (i := 38) (j := 40) (by kernel_rfl) (by decide) (by decide) rfl rfl (by rfl) (by rfl) ?_ ?_
   ·intro K hK
    try simp only [zq1, zq2, zq3]
    go_simp
    obtain ⟨V9, eV⟩ : ∃ W', V8.alloc (.cells #[.int .i64 k0, .int .i64 lo0, .int .i64 hi0, .int .i64 wt0, .string nm0, .slice A0 n0 c0] 33) = W' := ⟨_, rfl⟩
    have hb : Below V8.heap.size V8 V9 := by rw [<- eV]; exact (Below.refl _ _).alloc (Nat.le_refl _) _
    have hxl : Blk V9 V8.heap.size 33 #[.int .i64 k0, .int .i64 lo0, .int .i64 hi0, .int .i64 wt0, .string nm0, .slice A0 n0 c0] := by rw [<- eV]; exact Blk.new _ _ _
    rw [eV]
    clear eV
    have hR9 := hR8.trans (hb.mono hR8.size)
    have hS9 := HKS.out _ hR9
    clear hb
    refine hK _ _ hS9 ?_
    clear hK
    try simp only [Act.put, zq1, zq2, zq3, zq4, zq5, zq6]
    refine anyX_g (i := 40) (by kernel_rfl) (by decide) rfl (by rfl) ?_
    intro K hK
    try simp only [zq1, zq2, zq3]
    refine wp_enterE #[.int .i64 a1, .int .i64 13] Tryz.func30 (by kernel_rfl) (by kernel_rfl) ?_ (HWL.out _) ?_
    ·go_simp
    rintro e w8 ⟨rfl, rfl⟩
    refine ⟨_, rfl, ?_⟩
    refine hK _ _ hS9 ?_
    clear hK
    try simp only [Act.put, zq1, zq2, zq3, zq4, zq5, zq6]
    refine tkx (i := 42) (v := .int .i64 (mn : Nat)) hS9 ?_ ?_
    ·rintro w' ⟨b0, b1, b2, b3, b4, b5, b6, b7, b8, b9, b10, b11⟩
     go_simp
     try with_reducible rfl
    try simp only [Act.put, zq1, zq2, zq3, zq4, zq5, zq6]
    refine tkx (i := 44) (v := .agg #[.int .i64 7, .int .i64 (mn : Nat), .int .i64 (h : Nat), .int .i64 0, .string ⟨#[]⟩, .slice (some ⟨V8.heap.size, 0, none⟩) 1 1]) hS9 ?_ ?_
    ·rintro w' ⟨b0, b1, b2, b3, b4, b5, b6, b7, b8, b9, b10, b11⟩
     go_simp
     try with_reducible rfl
    try simp only [Act.put, zq1, zq2, zq3, zq4, zq5, zq6]
    refine anyX_g (i := 45) (by kernel_rfl) (by decide) rfl (by rfl) ?_
    intro K hK
    try simp only [zq1, zq2, zq3]
    refine wp_enterE #[.agg #[.int .i64 7, .int .i64 (mn : Nat), .int .i64 (h : Nat), .int .i64 0, .string ⟨#[]⟩, .slice (some ⟨V8.heap.size, 0, none⟩) 1 1]] Tryz.func20 (by kernel_rfl) (by kernel_rfl) ?_ (HST.out V9 _ _ (TreeV.one6 (S := fun _ => True) 7 (mn : Nat) (h : Nat) 0 hxl ((HTA.out V9 hR9).keep (S' := fun _ => True) (fun _ _ => trivial) (fun _ _ _ _ h => h)) trivial)) ?_
    ·go_simp
    rintro e w9 ⟨rfl, hb⟩
    refine ⟨_, rfl, ?_⟩
    have hR10 := hR9.trans (hb.mono hR9.size)
    have hS10 := HKS.out _ hR10
    clear hb hxl
    rw [HET.out]
    refine hK _ _ hS10 ?_
    clear hK
    try simp only [Act.put, zq1, zq2, zq3, zq4, zq5, zq6]
    refine tkx (i := 49) (v := .bool true) hS10 ?_ ?_
    ·rintro w' ⟨b0, b1, b2, b3, b4, b5, b6, b7, b8, b9, b10, b11⟩
     go_simp
     try with_reducible rfl
    try simp only [Act.put, zq1, zq2, zq3, zq4, zq5, zq6]
    refine tkx (i := 50) (v := .bool true) hS10 ?_ ?_
    ·rintro w' ⟨b0, b1, b2, b3, b4, b5, b6, b7, b8, b9, b10, b11⟩
     go_simp
     try with_reducible rfl
    try simp only [Act.put, zq1, zq2, zq3, zq4, zq5, zq6]
    have HRZ := Lib.hid hR10
    clear hS0 hS1 hS2 hS3 hS4 hS5 hS6 hS7 hS8 hS9 hS10 hR0 hR1 hR2 hR3 hR4 hR5 hR6 hR7 hR8 hR9 hR10
    refine anyX_last (by kernel_rfl) (by kernel_rfl) rfl rfl ?_
    try simp only [zq1, zq2, zq3]
    go_simp
    try apply_assumption
    go_wp2_with fail
    go_ret
    exact ⟨rfl, HBW.out.trans (HRZ.out.mono HBW.out.size)⟩
   ·intro K hK
    try simp only [zq1, zq2, zq3]
    refine wp_enterE #[.int .i64 a1, .int .i64 13] Tryz.func30 (by kernel_rfl) (by kernel_rfl) ?_ (HWL.out _) ?_
    ·go_simp
    rintro e w8 ⟨rfl, rfl⟩
    refine ⟨_, rfl, ?_⟩
    refine hK _ _ hS8 ?_
    clear hK
    try simp only [Act.put, zq1, zq2, zq3, zq4, zq5, zq6]
    refine tkx (i := 42) (v := .int .i64 (mn : Nat)) hS8 ?_ ?_
    ·rintro w' ⟨b0, b1, b2, b3, b4, b5, b6, b7, b8, b9, b10, b11⟩
     go_simp
     try with_reducible rfl
    try simp only [Act.put, zq1, zq2, zq3, zq4, zq5, zq6]
    refine anyX_g (i := 38) (by kernel_rfl) (by decide) rfl (by rfl) ?_
    intro K hK
    try simp only [zq1, zq2, zq3]
    go_simp
    obtain ⟨V9, eV⟩ : ∃ W', V8.alloc (.cells #[.int .i64 k0, .int .i64 lo0, .int .i64 hi0, .int .i64 wt0, .string nm0, .slice A0 n0 c0] 33) = W' := ⟨_, rfl⟩
    have hb : Below V8.heap.size V8 V9 := by rw [<- eV]; exact (Below.refl _ _).alloc (Nat.le_refl _) _
    have hxl : Blk V9 V8.heap.size 33 #[.int .i64 k0, .int .i64 lo0, .int .i64 hi0, .int .i64 wt0, .string nm0, .slice A0 n0 c0] := by rw [<- eV]; exact Blk.new _ _ _
    rw [eV]
    clear eV
    have hR9 := hR8.trans (hb.mono hR8.size)
    have hS9 := HKS.out _ hR9
    clear hb
    refine hK _ _ hS9 ?_
    clear hK
    try simp only [Act.put, zq1, zq2, zq3, zq4, zq5, zq6]
    refine tkx (i := 44) (v := .agg #[.int .i64 7, .int .i64 (mn : Nat), .int .i64 (h : Nat), .int .i64 0, .string ⟨#[]⟩, .slice (some ⟨V8.heap.size, 0, none⟩) 1 1]) hS9 ?_ ?_
    ·rintro w' ⟨b0, b1, b2, b3, b4, b5, b6, b7, b8, b9, b10, b11⟩
     go_simp
     try with_reducible rfl
    try simp only [Act.put, zq1, zq2, zq3, zq4, zq5, zq6]
    refine anyX_g (i := 45) (by kernel_rfl) (by decide) rfl (by rfl) ?_
    intro K hK
    try simp only [zq1, zq2, zq3]
    refine wp_enterE #[.agg #[.int .i64 7, .int .i64 (mn : Nat), .int .i64 (h : Nat), .int .i64 0, .string ⟨#[]⟩, .slice (some ⟨V8.heap.size, 0, none⟩) 1 1]] Tryz.func20 (by kernel_rfl) (by kernel_rfl) ?_ (HST.out V9 _ _ (TreeV.one6 (S := fun _ => True) 7 (mn : Nat) (h : Nat) 0 hxl ((HTA.out V9 hR9).keep (S' := fun _ => True) (fun _ _ => trivial) (fun _ _ _ _ h => h)) trivial)) ?_
    ·go_simp
    rintro e w9 ⟨rfl, hb⟩
    refine ⟨_, rfl, ?_⟩
    have hR10 := hR9.trans (hb.mono hR9.size)
    have hS10 := HKS.out _ hR10
    clear hb hxl
    rw [HET.out]
    refine hK _ _ hS10 ?_
    clear hK
    try simp only [Act.put, zq1, zq2, zq3, zq4, zq5, zq6]
    refine tkx (i := 49) (v := .bool true) hS10 ?_ ?_
    ·rintro w' ⟨b0, b1, b2, b3, b4, b5, b6, b7, b8, b9, b10, b11⟩
     go_simp
     try with_reducible rfl
    try simp only [Act.put, zq1, zq2, zq3, zq4, zq5, zq6]
    refine tkx (i := 50) (v := .bool true) hS10 ?_ ?_
    ·rintro w' ⟨b0, b1, b2, b3, b4, b5, b6, b7, b8, b9, b10, b11⟩
     go_simp
     try with_reducible rfl
    try simp only [Act.put, zq1, zq2, zq3, zq4, zq5, zq6]
    have HRZ := Lib.hid hR10
    clear hS0 hS1 hS2 hS3 hS4 hS5 hS6 hS7 hS8 hS9 hS10 hR0 hR1 hR2 hR3 hR4 hR5 hR6 hR7 hR8 hR9 hR10
    refine anyX_last (by kernel_rfl) (by kernel_rfl) rfl rfl ?_
    try simp only [zq1, zq2, zq3]
    go_simp
    try apply_assumption
    go_wp2_with fail
    go_ret
    exact ⟨rfl, HBW.out.trans (HRZ.out.mono HBW.out.size)⟩
end Go.Proofs.YtfccnadbiglagaaGreat
