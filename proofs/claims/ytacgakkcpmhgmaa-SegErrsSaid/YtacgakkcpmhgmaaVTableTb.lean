/- The law text's Make. -/
import Derived.Test.YtacgakkcpmhgmaaVTableTa
set_option linter.unusedVariables false
set_option linter.unusedSimpArgs false
set_option maxRecDepth 100000
set_option maxHeartbeats 8000000
namespace Go.Proofs.Ytacgakkcpmhgmaa
open Go Go.RowKit Go.Proofs
theorem make_fr {w : World} {NA MA CSA : Option Addr} {nl nc ml mc cl cc k n : Nat} {ns ms cs : List Int} (hns : ReadsI w (.slice NA nl nc) nl ns) (hms : ReadsI w (.slice MA ml mc) ml ms) (hcs : ReadsI w (.slice CSA cl cc) cl cs) (size letters : Int) (hk : (k : Int) = 1 + size % 9) (hn : (n : Int) = 1 + letters % 3) :
  Calls Try.prog 16 #[.int .i64 size, .int .i64 letters, .slice NA nl nc, .slice MA ml mc, .slice CSA cl cc] w fun e w' => ∃ vc vl vbn vbo vfn vfe, e = .returned (.agg #[vc, vl, vbn, vbo, vfn, vfe]) /\ TabR w' vc vl vbn vbo vfn vfe (lawTab ns ms cs k n) /\ (∀ W', Fr (fun q => q < w.heap.size) w' W' -> TabR W' vc vl vbn vbo vfn vfe (lawTab ns ms cs k n)) /\ Below w.heap.size w w' := by
  have k1 : 1 <= k := by omega
  have k9 : k <= 9 := by omega
  have n1 : 1 <= n := by omega
  have n3 : n <= 3 := by omega
  obtain ⟨b0, hb0⟩ : ∃ b, b = w.heap.size := ⟨_, rfl⟩
  obtain ⟨W0, hW0⟩ : ∃ W, w.alloc (.cells #[.slice none 0 0, .slice none 0 0, .slice none 0 0, .slice none 0 0, .slice none 0 0, .slice none 0 0] 32) = W := ⟨_, rfl⟩
  have hb : Below w.heap.size w W0 := by rw [<- hW0]; exact (Below.refl _ _).alloc (Nat.le_refl _) _
  have X0 : Hid (Blk W0 b0 32 #[.slice none 0 0, .slice none 0 0, .slice none 0 0, .slice none 0 0, .slice none 0 0, .slice none 0 0]) := Lib.hid (by rw [<- hW0, hb0]; exact Blk.new _ _ _)
  have HB0 := Lib.hid hb; have HN := Lib.hid hns; have HM := Lib.hid hms; have HC := Lib.hid hcs; have HK := Lib.hid hk; have HNN := Lib.hid hn
  have HW0 := Lib.hid hW0; have E0 := Lib.hid hb0
  obtain ⟨-, A', c', e, -, hc9, -, -⟩ := id hcs
  simp only [Value.slice.injEq, true_and] at e
  obtain ⟨rfl, rfl⟩ := e
  have hcl9 : cl <= cc := by obtain ⟨-, A', c', e, h, -⟩ := hcs; simp only [Value.slice.injEq, true_and] at e; obtain ⟨-, rfl⟩ := e; exact h
  unfold maxLen at hc9
  clear hb hns hms hcs hk hn hW0 hb0
  go_enter Try.func16, Try.ntmps16
  go_wp2_with fail
  rw [HW0.out]
  refine (lawBack_ap (HN.out.below HB0.out) size letters HK.out HNN.out).mono ?_
  rintro e W1 ⟨vn, vo, vals, rfl, hv, hr, ho, hb⟩
  have hT := lawLL hv hr
  have hnx : NextR W1 vn (lawT ns k n) := hT.nextR (lawT_len ns k n) (fun i hi => xssT_at (lawT ns k n) hi)
  have hrow := hnx.rowsI
  have hol := ho.readsI
  obtain ⟨BN, bc, e1, l5, l6⟩ := hnx.form
  rw [lawT_len] at e1 l5
  obtain ⟨BO, oc, rfl, l7, l8, -⟩ := hol.form
  subst e1
  obtain ⟨gb, ob, R0, r0n, r0c, ea, er, hc0, -, hr0, hr09⟩ := (show RowsI W1 (.slice BN k bc) ((lawT ns k n).map intsN) from hrow).at_ (i := 0) (by rw [List.length_map, lawT_len]; omega)
  subst ea
  have hr0n : r0n = n := by
   rw [er]
   have := (law_rect ns (k := k) (n := n) (by omega)).len 0 (by rw [lawT_len]; omega)
   simp only [List.getD_eq_getElem?_getD, List.getElem?_map] at this ⊢
   have hl : 0 < (lawT ns k n).length := by rw [lawT_len]; omega
   rw [List.getElem?_eq_getElem hl] at this ⊢
   simpa [intsN] using this
  subst hr0n
  have HV1 := Lib.hid hv; have HR1 := Lib.hid hr; have HO1 := Lib.hid ho; have HB1 := Lib.hid (HB0.out.trans (hb.mono HB0.out.size)); have X1 := Lib.hid (Blk.below X0.out hb X0.out.lt); have HC01 := Lib.hid hc0
  clear hv hr ho hb hT hnx hrow hol er hc0 X0 HB0
  go_wp2_with fail
  refine (lawFwd_any (HM.out.below HB1.out) size letters HK.out HNN.out).mono ?_
  rintro e W2 ⟨fn, fo, rfl, hfn, hfo, hb⟩
  have hnx : NextR W2 fn (lawT ms k r0n) := hfn.nextR (lawT_len ms k r0n) (fun i hi => xssT_at (lawT ms k r0n) hi)
  have hem : EmitR W2 fo (lawEs (lawO ms k r0n)) := hfo.emitR (by rw [lawEs_len, lawO_len]) (fun i hi => xssE_at (lawEs (lawO ms k r0n)) hi)
  obtain ⟨FN, fc, e1, l9, l10⟩ := hnx.form
  obtain ⟨FE, ec, e2, l11, l12⟩ := hem.form
  rw [lawT_len] at e1 l9
  rw [lawEs_len, lawO_len] at e2 l11
  subst e1 e2
  have HV2 := Lib.hid (ownsRow_bel HV1.out hb); have HR2 : Hid (∀ q, q < k -> Own W2 W0.heap.size (vals.getD q undef) r0n (intsN ((lawT ns k r0n).getD q [])) /\ Apart (.slice BO k oc) (vals.getD q undef)) := Lib.hid (fun q hq => ⟨(HR1.out q hq).1.below_top hb, (HR1.out q hq).2⟩)
  have HO2 := Lib.hid (HO1.out.below_top hb)
  have HBB : Hid (∀ q, (Value.slice BO k oc).ownBlock = some q -> q < W1.heap.size) := Lib.hid (fun q hq => (HO1.out.lt q hq).2)
  have HFN := Lib.hid hfn; have HFE := Lib.hid hfo
  have HB2 := Lib.hid (HB1.out.trans (hb.mono HB1.out.size)); have X2 := Lib.hid (Blk.below X1.out hb X1.out.lt); have HC02 : Hid (W2.cell? ⟨gb, ob + 0, none⟩ = some (.slice R0 r0n r0c)) := Lib.hid (bel_m hb HC01.out)
  have HS12 := Lib.hid hb.size
  clear hfn hfo hb hnx hem HV1 HR1 HO1 HB1 X1 HC01
  obtain ⟨b, hbe⟩ : ∃ b, W2.heap.size = b := ⟨_, rfl⟩
  obtain ⟨W5, hW5⟩ : ∃ W, ((W2.alloc (.cells #[sl (b + 1) 1 1, sl (b + 1 + 1) 1 1, .slice (some ⟨gb, ob, none⟩) k bc, .slice BO k oc, .slice FN k fc, .slice FE k ec] 32)).alloc (.cells #[.int .i64 0] 3)).alloc (.cells #[.int .i64 0] 3) = W := ⟨_, rfl⟩
  have hb5 : Below W2.heap.size W2 W5 := by rw [<- hW5]; exact (((Below.refl _ _).alloc (Nat.le_refl _) _).alloc (by simp) _).alloc (by simp; omega) _
  have x5 : Blk W5 b 32 #[sl (b + 1) 1 1, sl (b + 1 + 1) 1 1, .slice (some ⟨gb, ob, none⟩) k bc, .slice BO k oc, .slice FN k fc, .slice FE k ec] := by rw [<- hW5]; exact Blk.alloc (Blk.alloc (Blk.newAt _ hbe _ _) _) _
  have hone : ∀ (W : World) (q : Nat), W.heap.size = q -> Own (W.alloc (.cells #[.int .i64 0] 3)) q (sl q 1 1) 1 [0] := fun W q e => by
   rw [<- e]; exact own_box W 3 1 1 #[.int .i64 0] (by omega) rfl
  have o5 : Own W5 (b + 1) (sl (b + 1) 1 1) 1 [0] := by rw [<- hW5]; exact (hone _ (b + 1) (by simp [hbe])).alloc _
  have o6 : Own W5 (b + 1) (sl (b + 1 + 1) 1 1) 1 [0] := by rw [<- hW5]; exact (hone _ (b + 1 + 1) (by simp [hbe])).more (by omega)
  have hz5 : b < W5.heap.size := x5.lt
  have hst : MakeAt W2 W5 b (.slice (some ⟨gb, ob, none⟩) k bc) (.slice BO k oc) (.slice FN k fc) (.slice FE k ec) 1 [0] [0] := ⟨b + 1, 1, b + 1 + 1, 1, x5, o5, o6, by omega, by rw [<- hbe]; exact hb5, hz5⟩
  have HST := Lib.hid hst; have HW5 := Lib.hid hW5; have HBE := Lib.hid hbe
  have hc3 : W2.cell? ⟨gb, ob, none⟩ = some (.slice R0 r0n r0c) := HC02.out
  clear hb5 x5 hone o5 o6 hz5 hst
  rw [<- hbe] at hW5
  have HW5' := Lib.hid hW5
  clear hbe hW5 HW5
  have hc3 : (W2.alloc (.cells #[.slice none 0 0, .slice none 0 0, .slice (some ⟨gb, ob, none⟩) k bc, .slice BO k oc, .slice FN k fc, .slice FE k ec] 32)).cell? ⟨gb, ob, none⟩ = some (.slice R0 r0n r0c) := bel_m ((Below.refl _ _).alloc (Nat.le_refl _) _) HC02.out
  have hcl0 : (0 : Int) <= (cl : Int) := Int.natCast_nonneg _
  go_wp2_with fail
  rw [HW5'.out, HBE.out, <- E0.out]
  have HST0 : Hid (MakeAt W2 W5 b (.slice (some ⟨gb, ob, none⟩) k bc) (.slice BO k oc) (.slice FN k fc) (.slice FE k ec) (0 + 1) (someCL r0n (cs.take 0)).c (someCL r0n (cs.take 0)).l) := HST
  clear HST hc3 HC02
  obtain ⟨v2, hv2⟩ : ∃ v : Value, v = (.slice (some ⟨gb, ob, none⟩) k bc) := ⟨_, rfl⟩
  obtain ⟨v3, hv3⟩ : ∃ v : Value, v = (.slice BO k oc) := ⟨_, rfl⟩
  obtain ⟨v4, hv4⟩ : ∃ v : Value, v = (.slice FN k fc) := ⟨_, rfl⟩
  obtain ⟨v5, hv5⟩ : ∃ v : Value, v = (.slice FE k ec) := ⟨_, rfl⟩
  rw [<- hv2, <- hv3, <- hv4, <- hv5] at HST0
  have EV2 := Lib.hid hv2; have EV3 := Lib.hid hv3; have EV4 := Lib.hid hv4; have EV5 := Lib.hid hv5
  clear hv2 hv3 hv4 hv5
  rename_i Q9 K9 aK9
  have REST : ∀ (y5 y6 y7 y8 y9 y14 y15 y16 y17 y18 y19 y20 y21 y22 y23 y24 y25 y26 y27 y28 y29 y30 y31 y32 y33 y34 y35 y36 y37 y38 y39 y40 y41 y42 y43 y44 y45 y46 y47 y48 y49 y50 y51 y52 y53 y54 y55 y56 y57 y58 y59 y60 y61 y62 y63 y64 y65 y66 y67 y68 y69 y70 y71 y72 y73 y74 y75 y76 y77 y78 y79 y80 y81 y82 y83 y84 y85 y86 y87 y88 y89 y90 y91 y92 y93 y94 y95 y96 y97 y98 y99 y100 y101 y102 y103 y104 y105 y106 y107 y108 y109 y110 y111 y112 y113 y114 y115 y116 y117 y118 y119 y120 y121 y122 y123 y124 y125 y126 y127 y128 y129 y130 y131 y132 y133 y134 : Value) (CSA : Option Addr) (wr : World), Hid (MakeAt W2 wr b v2 v3 v4 v5 (someCL r0n (cs.take 6)).c.length (someCL r0n (cs.take 6)).c (someCL r0n (cs.take 6)).l) -> K9 { tmps := #[.int .i64 size, .int .i64 letters, .slice NA nl nc, .slice MA ml mc, .slice CSA cl cc, y5, y6, y7, y8, y9, .pointer (some ⟨b0, 0, none⟩), .pointer (some ⟨b, 0, none⟩), .int .i64 (r0n : Int), .int .i64 ((someCL r0n (cs.take 6)).next : Int), y14, y15, y16, y17, y18, y19, y20, y21, y22, y23, y24, y25, y26, y27, y28, y29, y30, y31, y32, y33, y34, y35, y36, y37, y38, y39, y40, y41, y42, y43, y44, y45, y46, y47, y48, y49, y50, y51, y52, y53, y54, y55, y56, y57, y58, y59, y60, y61, y62, y63, y64, y65, y66, y67, y68, y69, y70, y71, y72, y73, y74, y75, y76, y77, y78, y79, y80, y81, y82, y83, y84, y85, y86, y87, y88, y89, y90, y91, y92, y93, y94, y95, y96, y97, y98, y99, y100, y101, y102, y103, y104, y105, y106, y107, y108, y109, y110, y111, y112, y113, y114, y115, y116, y117, y118, y119, y120, y121, y122, y123, y124, y125, y126, y127, y128, y129, y130, y131, y132, y133, y134], defers := [] } wr := by
   intro y5 y6 y7 y8 y9 y14 y15 y16 y17 y18 y19 y20 y21 y22 y23 y24 y25 y26 y27 y28 y29 y30 y31 y32 y33 y34 y35 y36 y37 y38 y39 y40 y41 y42 y43 y44 y45 y46 y47 y48 y49 y50 y51 y52 y53 y54 y55 y56 y57 y58 y59 y60 y61 y62 y63 y64 y65 y66 y67 y68 y69 y70 y71 y72 y73 y74 y75 y76 y77 y78 y79 y80 y81 y82 y83 y84 y85 y86 y87 y88 y89 y90 y91 y92 y93 y94 y95 y96 y97 y98 y99 y100 y101 y102 y103 y104 y105 y106 y107 y108 y109 y110 y111 y112 y113 y114 y115 y116 y117 y118 y119 y120 y121 y122 y123 y124 y125 y126 y127 y128 y129 y130 y131 y132 y133 y134 CSA wr HMK0
   refine aK9 _ _ ?_
   have hok6 := someCL_ok (n := r0n) (by omega) (cs.take 6)
   obtain ⟨s6, hs6⟩ : ∃ s, someCL r0n (cs.take 6) = s := ⟨_, rfl⟩
   have hmk : makeCL r0n cs = fillCL (r0n - s6.next) s6 := by unfold makeCL; rw [hs6]
   have hl6 : s6.c.length <= 7 := by rw [<- hs6, (someCL_len _ _).1, List.length_take]; omega
   rw [hs6] at HMK0 hok6
   rw [hs6]
   have HL6 := Lib.hid hl6
   clear hl6
   have HMKC := Lib.hid hmk; have HOK6 := Lib.hid hok6
   have hnx6 := hok6.le
   clear hs6 hmk hok6 aK9
   go_wp2_with fail
   have HMK1 : Hid (MakeAt W2 wr b v2 v3 v4 v5 (fillCL 0 s6).c.length (fillCL 0 s6).c (fillCL 0 s6).l) := HMK0
   clear HMK0
   go_loopw [13] (fun u wr => ∃ j : Nat, u = .int .i64 ((fillCL j s6).next : Int) /\ j + s6.next <= r0n /\ Hid (MakeAt W2 wr b v2 v3 v4 v5 (fillCL j s6).c.length (fillCL j s6).c (fillCL j s6).l)) (fun u _ => r0n - (intOf u).toNat)
   case atStart => exact ⟨0, rfl, by omega, HMK1⟩
   case round =>
    clear HMK1
    obtain ⟨j, rfl, hj, HMK⟩ := hrel
    obtain ⟨hokj, hnj, hlj⟩ := fillCL_ok j s6 HOK6.out (by omega)
    have hstep := fillCL_succ j s6
    obtain ⟨s, hs⟩ : ∃ s, fillCL j s6 = s := ⟨_, rfl⟩
    rw [hs] at HMK hokj hnj hlj hstep ⊢
    have HS := Lib.hid hs
    clear hs
    obtain ⟨m, hm⟩ : ∃ m, s.c.length = m := ⟨_, rfl⟩
    obtain ⟨nx, hnxe⟩ : ∃ q, s.next = q := ⟨_, rfl⟩
    rw [hm] at HMK
    have hll := hokj.len
    rw [hnxe] at hnj
    rw [hnxe]
    have hz0 : (0 : Int) <= (nx : Int) := Int.natCast_nonneg _
    by_cases hlt : nx < r0n
    ·have i1 : (nx : Int) < (r0n : Int) := by omega
     obtain ⟨gc, ca, gl, la, hx, ho1, ho2, hgg, hbl, hbv⟩ := HMK.out
     have hpos := hokj.pos
     obtain ⟨x, hxe⟩ : ∃ x, s.c.getD (m - 1) 0 = x := ⟨_, rfl⟩
     have hxb := hokj.bound x (by rw [<- hxe]; exact getD_mem (by omega))
     have hs6l := HOK6.out
     have hm9 : m <= 1000000 := by have := HL6.out; omega
     have hx9 : 0 <= x /\ x <= 1003000000 := by omega
     have hm0 : (0 : Int) <= (m : Int) - 1 := by omega
     have hm1 : (m : Int) - 1 < (m : Int) := by omega
     have hmt : ((m : Int) - 1).toNat = m - 1 := by omega
     have hmw : IntKind.i64.wrap ((m : Int) - 1) = (m : Int) - 1 := IntWalk.i64_in _ (by omega)
     obtain ⟨xn, hxn⟩ : ∃ q, IntKind.i64.wrap (x + 3) = q := ⟨_, rfl⟩
     have hxn2 : xn = x + 3 := by rw [<- hxn]; exact IntWalk.i64_in _ (by omega)
     have HX := Lib.hid hx; have HO1 := Lib.hid ho1; have HO2 := Lib.hid ho2; have HG := Lib.hid hgg; have HBL := Lib.hid hbl; have HBV := Lib.hid hbv; have HM1 : Hid (1 <= m /\ s.c.length = m) := Lib.hid ⟨by omega, hm⟩
     have HXV := Lib.hid hxe; have HXN := Lib.hid hxn
     have HJ : Hid True := Lib.hid trivial
     have hmI : (1 : Int) <= (m : Int) := by omega
     have hmI2 : (1 : Int) <= ((m : Nat) : Int) := hmI
     have HF : Hid (fillCL (j + 1) s6 = ⟨s.c ++ [xn], s.l ++ [(nx : Int)], nx + 1⟩) := Lib.hid (by
      rw [hstep]
      unfold CL.push
      rw [hnxe, hm, hxe, hxn2, if_pos rfl])
     have HMI := Lib.hid hm
     have HNJ := Lib.hid hnj
     clear hx ho1 ho2 hgg hbl hbv hm hxe hxn hxn2 hstep hnxe hokj hlj hll hxb hs6l HMK hnj
     go_wp2_with fail
     have HAP : Hid (Apart (sl gc m ca) (sl gl m la)) := Lib.hid (.inr (.inr (by simp only [Value.ownBlock]; intro e; injection e with e; exact HG.out e)))
     have HG1 : Hid (b + 1 <= gc) := Lib.hid (HO1.out.lt gc rfl).1
     have HG2 : Hid (b + 1 <= gl) := Lib.hid (HO2.out.lt gl rfl).1
     have HBW : Hid (b + 1 <= wr.heap.size) := Lib.hid HBV.out
     obtain ⟨V0, eV⟩ : ∃ W', wr.drew = W' := ⟨_, rfl⟩
     have HX0 : Hid (Blk V0 b 32 #[sl gc m ca, sl gl m la, v2, v3, v4, v5]) := Lib.hid (by rw [<- eV]; exact Blk.drew HX.out)
     have HT : Hid (TwoRows (b + 1) 3 3 V0 (sl gc m ca) (sl gl m la) V0 (sl gc m ca) m (s.c.map (Value.int .i64)) (sl gl m la) m (s.l.map (Value.int .i64))) := Lib.hid (by rw [<- eV]; exact (TwoRows.start HO1.out HO2.out HAP.out HBW.out).drew0)
     have HLA : Hid (∀ q, (sl gc m ca).ownBlock = some q -> b + 1 <= q /\ q < V0.heap.size) := Lib.hid HT.out.own1.lt
     have HLP : Hid (∀ q, (sl gl m la).ownBlock = some q -> b + 1 <= q /\ q < V0.heap.size) := Lib.hid HT.out.own2.lt
     have HBL2 : Hid (Below b W2 V0) := Lib.hid (by rw [<- eV]; exact HBL.out.drew)
     have HBV2 : Hid (b < V0.heap.size) := Lib.hid (by rw [<- eV]; exact HBV.out)
     have HKS : Hid (∀ W : World, Fr (fun q => (sl gc m ca).ownBlock = some q \/ (sl gl m la).ownBlock = some q) V0 W -> (fun W : World => W.cell? ⟨b, 0, none⟩ = some (sl gc m ca) /\ W.cell? ⟨b, 1, none⟩ = some (sl gl m la)) W) := Lib.hid (fun W hW => by
       have hx := hW.blk HX0.out (fun e => e.elim (fun e => by have := (HLA.out _ e).1; omega) (fun e => by have := (HLP.out _ e).1; omega))
       have k0 := hx.cell 0; have k1 := hx.cell 1
       simpa using And.intro k0 k1)
     have HCX : Hid (∀ W : World, TwoRows (b + 1) 3 3 V0 (sl gc m ca) (sl gl m la) W (sl gc m ca) m (s.c.map (Value.int .i64)) (sl gl m la) m (s.l.map (Value.int .i64)) -> W.cell? ⟨gc, m - 1, none⟩ = some (.int .i64 x)) := Lib.hid (fun W hW => by
       have h := World.ownsRow.cellAt hW.own1 (m - 1) (by have := HM1.out; omega)
       rw [h, List.getElem?_map, <- HXV.out, List.getD_eq_getElem?_getD]
       have hl : m - 1 < s.c.length := by have := HO1.out.len; have := HM1.out; omega
       rw [List.getElem?_eq_getElem hl]; rfl)
     go_wp2_with fail
     refine region_y 19 (fun W : World => W.cell? ⟨b, 0, none⟩ = some (sl gc m ca) /\ W.cell? ⟨b, 1, none⟩ = some (sl gl m la)) (by kernel_rfl) ?_
     rw [eV]
     clear eV
     have hT := HT.out
     have hS := HKS.out _ hT.fr
     refine tky (i := 0) (v := ?_) hS ?_ ?_
     rotate_left
     ·rintro w' ⟨s0', s1'⟩
      go_simp
      try with_reducible rfl
     try simp only [Act.put, zq1, zq2, zq3, zq4, zq5, zq6]
     refine tky (i := 1) (v := ?_) hS ?_ ?_
     rotate_left
     ·rintro w' ⟨s0', s1'⟩
      go_simp
      try with_reducible rfl
     try simp only [Act.put, zq1, zq2, zq3, zq4, zq5, zq6]
     refine tky (i := 2) (v := ?_) hS ?_ ?_
     rotate_left
     ·rintro w' ⟨s0', s1'⟩
      go_simp
      try with_reducible rfl
     try simp only [Act.put, zq1, zq2, zq3, zq4, zq5, zq6]
     refine tky (i := 3) (v := ?_) hS ?_ ?_
     rotate_left
     ·rintro w' ⟨s0', s1'⟩
      go_simp
      try with_reducible rfl
     try simp only [Act.put, zq1, zq2, zq3, zq4, zq5, zq6]
     refine tky (i := 4) (v := ?_) hS ?_ ?_
     rotate_left
     ·rintro w' ⟨s0', s1'⟩
      go_simp
      try with_reducible rfl
     try simp only [Act.put, zq1, zq2, zq3, zq4, zq5, zq6]
     refine tky (i := 5) (v := ?_) hS ?_ ?_
     rotate_left
     ·rintro w' ⟨s0', s1'⟩
      go_simp
      try with_reducible rfl
     try simp only [Act.put, zq1, zq2, zq3, zq4, zq5, zq6]
     refine tky (i := 6) (v := ?_) hS ?_ ?_
     rotate_left
     ·rintro w' ⟨s0', s1'⟩
      go_simp
      try with_reducible rfl
     try simp only [Act.put, zq1, zq2, zq3, zq4, zq5, zq6]
     refine tky (i := 7) (v := ?_) hS ?_ ?_
     rotate_left
     ·rintro w' ⟨s0', s1'⟩
      go_simp
      try with_reducible rfl
     try simp only [Act.put, zq1, zq2, zq3, zq4, zq5, zq6]
     refine tky (i := 8) (v := ?_) hS ?_ ?_
     rotate_left
     ·rintro w' ⟨s0', s1'⟩
      go_simp
      try with_reducible rfl
     try simp only [Act.put, zq1, zq2, zq3, zq4, zq5, zq6]
     refine tky (i := 13) (v := ?_) hS ?_ ?_
     rotate_left
     ·rintro w' ⟨s0', s1'⟩
      go_simp
      try with_reducible rfl
     try simp only [Act.put, zq1, zq2, zq3, zq4, zq5, zq6]
     refine tky (i := 14) (v := ?_) hS ?_ ?_
     rotate_left
     ·rintro w' ⟨s0', s1'⟩
      go_simp
      try with_reducible rfl
     try simp only [Act.put, zq1, zq2, zq3, zq4, zq5, zq6]
     refine tkyg [17, 16] (i := 15) (v := ?_) hS ?_ ?_
     rotate_left
     ·rintro w' ⟨s0', s1'⟩
      go_simp
      try with_reducible rfl
     try simp only [Act.put, zq1, zq2, zq3, zq4, zq5, zq6]
     refine anyY_2 (i := 9) (j := 16) (by kernel_rfl) rfl rfl rfl rfl ?_ ?_
     ·intro K hK
      try simp only [zq1, zq2, zq3]
      have hcx : V0.cell? ⟨gc, (m - 1), none⟩ = some (.int .i64 x) := HCX.out _ hT
      first | rw [HJ.out] at hcx | skip
      go_simp
      refine hK _ _ hS ?_
      clear hK
      try simp only [Act.put, zq1, zq2, zq3, zq4, zq5, zq6]
      clear hcx
      refine tky0 (i := 10) (v := ?_) hS ?_ ?_
      rotate_left
      ·rintro w' -
       go_simp
       try with_reducible rfl
      try simp only [Act.put, zq1, zq2, zq3, zq4, zq5, zq6]
      refine anyY_2 (i := 11) (j := 16) (by kernel_rfl) rfl rfl rfl rfl ?_ ?_
      ·intro K hK
       try simp only [zq1, zq2, zq3]
       go_simp
       rw [HXN.out]
       obtain ⟨V1, eV⟩ : ∃ W', V0.alloc (.cells #[.int .i64 xn] 3) = W' := ⟨_, rfl⟩
       have hb : Below V0.heap.size V0 V1 := by rw [<- eV]; exact (Below.refl _ _).alloc (Nat.le_refl _) _
       have xb1 : Blk V1 V0.heap.size 3 #[.int .i64 xn] := by rw [<- eV]; exact Blk.new _ _ _
       have hge := hT.fr.size
       replace hT := hT.bel hb
       rw [eV]
       clear eV hb
       obtain ⟨p1, hp⟩ : ∃ p, V0.heap.size = p := ⟨_, rfl⟩
       have hge1 : V0.heap.size <= p1 := Nat.le_trans hge (Nat.le_of_eq hp)
       rw [hp] at xb1 ⊢
       clear hp hge
       replace hS := HKS.out _ hT.fr
       refine hK _ _ hS ?_
       clear hK
       try simp only [Act.put, zq1, zq2, zq3, zq4, zq5, zq6]
       refine anyY_2 (i := 12) (j := 16) (by kernel_rfl) rfl rfl rfl rfl ?_ ?_
       ·intro K hK
        try simp only [zq1, zq2, zq3]
        refine wp_pushK rfl (.tmp 89) (.tmp 99) 22 3 rfl 1 8 _ Try.underlying22 info_int rfl (by omega) (by omega) (b + 1) _ _ _ (by rfl) hT.own1 p1 (by rfl) #[.int .i64 xn] rfl xb1 (by simp [Value.oneCell']) hm9 hT.size ?_
        intro g1 cap1 V2 q1 q2 q3
        replace hT := hT.push1 q1 q2 q3
        clear q1 q2 q3 xb1
        replace hS := HKS.out _ hT.fr
        refine hK _ _ hS ?_
        clear hK
        try simp only [Act.put, zq1, zq2, zq3, zq4, zq5, zq6]
        refine tky (i := 18) (v := ?_) hS ?_ ?_
        rotate_left
        ·rintro w' ⟨s0', s1'⟩
         go_simp
         try with_reducible rfl
        try simp only [Act.put, zq1, zq2, zq3, zq4, zq5, zq6]
        refine anyY_g (i := 16) (by kernel_rfl) rfl rfl ?_
        intro K hK
        try simp only [zq1, zq2, zq3]
        go_simp
        obtain ⟨V3, eV⟩ : ∃ W', V2.alloc (.cells #[.int .i64 (nx : Int)] 3) = W' := ⟨_, rfl⟩
        have hb : Below V2.heap.size V2 V3 := by rw [<- eV]; exact (Below.refl _ _).alloc (Nat.le_refl _) _
        have xb2 : Blk V3 V2.heap.size 3 #[.int .i64 (nx : Int)] := by rw [<- eV]; exact Blk.new _ _ _
        have hge := hT.fr.size
        replace hT := hT.bel hb
        rw [eV]
        clear eV hb
        obtain ⟨p2, hp⟩ : ∃ p, V2.heap.size = p := ⟨_, rfl⟩
        have hge2 : V0.heap.size <= p2 := Nat.le_trans hge (Nat.le_of_eq hp)
        rw [hp] at xb2 ⊢
        clear hp hge
        replace hS := HKS.out _ hT.fr
        refine hK _ _ hS ?_
        clear hK
        try simp only [Act.put, zq1, zq2, zq3, zq4, zq5, zq6]
        refine anyY_g (i := 17) (by kernel_rfl) rfl rfl ?_
        intro K hK
        try simp only [zq1, zq2, zq3]
        refine wp_pushK rfl (.tmp 102) (.tmp 104) 22 3 rfl 1 8 _ Try.underlying22 info_int rfl (by omega) (by omega) (b + 1) _ _ _ (by rfl) hT.own2 p2 (by rfl) #[.int .i64 (nx : Int)] rfl xb2 (by simp [Value.oneCell']) hm9 hT.size ?_
        intro g2 cap2 V4 q1 q2 q3
        replace hT := hT.push2 q1 q2 q3
        clear q1 q2 q3 xb2
        replace hS := HKS.out _ hT.fr
        refine hK _ _ hS ?_
        clear hK
        try simp only [Act.put, zq1, zq2, zq3, zq4, zq5, zq6]
        have hx := hT.fr.blk HX0.out (fun e => e.elim (fun e => by have := (HLA.out _ e).1; omega) (fun e => by have := (HLP.out _ e).1; omega))
        have k0 := Blk.cell hx 0; have k1 := Blk.cell hx 1; have f0 := Blk.frozen hx 0; have f1 := Blk.frozen hx 1
        simp only [List.getElem?_toArray, List.getElem?_cons_zero, List.getElem?_cons_succ] at k0 k1
        have HE := Lib.hid (makeEnd hx hT HBL2.out HBV2.out HG1.out HG2.out)
        clear hx hT hS
        refine anyY_h (i := 19) (by kernel_rfl) (by kernel_rfl) rfl rfl ?_
        intro K hK
        try simp only [zq1, zq2, zq3]
        go_simp
        refine hK _ _ ?_
        clear hK
        try simp only [Act.put, zq1, zq2, zq3, zq4, zq5, zq6]
        refine anyY_h (i := 20) (by kernel_rfl) (by kernel_rfl) rfl rfl ?_
        intro K hK
        try simp only [zq1, zq2, zq3]
        go_simp
        refine hK _ _ ?_
        clear hK
        try simp only [Act.put, zq1, zq2, zq3, zq4, zq5, zq6]
        refine anyY_last (i := 21) (by kernel_rfl) (by kernel_rfl) (by kernel_rfl) rfl rfl ?_
        try simp only [zq1, zq2, zq3]
        go_simp
        try apply_assumption
        clear k0 k1 f0 f1
        go_wp2_with fail
        refine ⟨⟨j + 1, by rw [HF.out]; simp, by have := HNJ.out; omega, Lib.hid ?_⟩, by simp [intOf]; omega⟩
        rw [HF.out]
        have e : (s.c ++ [xn]).length = m + 1 := by rw [List.length_append, HMI.out]; rfl
        show MakeAt _ _ _ _ _ _ _ (s.c ++ [xn]).length _ _
        rw [e]
        exact HE.out
       ·intro K hK
        try simp only [zq1, zq2, zq3]
        go_simp
        obtain ⟨V2, eV⟩ : ∃ W', V1.alloc (.cells #[.int .i64 (nx : Int)] 3) = W' := ⟨_, rfl⟩
        have hb : Below V1.heap.size V1 V2 := by rw [<- eV]; exact (Below.refl _ _).alloc (Nat.le_refl _) _
        replace xb1 := Blk.below xb1 hb xb1.lt
        have xb2 : Blk V2 V1.heap.size 3 #[.int .i64 (nx : Int)] := by rw [<- eV]; exact Blk.new _ _ _
        have hge := hT.fr.size
        replace hT := hT.bel hb
        rw [eV]
        clear eV hb
        obtain ⟨p2, hp⟩ : ∃ p, V1.heap.size = p := ⟨_, rfl⟩
        have hge2 : V0.heap.size <= p2 := Nat.le_trans hge (Nat.le_of_eq hp)
        rw [hp] at xb2 ⊢
        clear hp hge
        replace hS := HKS.out _ hT.fr
        refine hK _ _ hS ?_
        clear hK
        try simp only [Act.put, zq1, zq2, zq3, zq4, zq5, zq6]
        refine anyY_g (i := 12) (by kernel_rfl) rfl rfl ?_
        intro K hK
        try simp only [zq1, zq2, zq3]
        refine wp_pushK rfl (.tmp 89) (.tmp 99) 22 3 rfl 1 8 _ Try.underlying22 info_int rfl (by omega) (by omega) (b + 1) _ _ _ (by rfl) hT.own1 p1 (by rfl) #[.int .i64 xn] rfl xb1 (by simp [Value.oneCell']) hm9 hT.size ?_
        intro g1 cap1 V3 q1 q2 q3
        replace xb2 := Blk.grown xb2 q2 (fun e => by have := HLA.out _ e.symm; omega)
        replace hT := hT.push1 q1 q2 q3
        clear q1 q2 q3 xb1
        replace hS := HKS.out _ hT.fr
        refine hK _ _ hS ?_
        clear hK
        try simp only [Act.put, zq1, zq2, zq3, zq4, zq5, zq6]
        refine tky (i := 18) (v := ?_) hS ?_ ?_
        rotate_left
        ·rintro w' ⟨s0', s1'⟩
         go_simp
         try with_reducible rfl
        try simp only [Act.put, zq1, zq2, zq3, zq4, zq5, zq6]
        refine anyY_g (i := 17) (by kernel_rfl) rfl rfl ?_
        intro K hK
        try simp only [zq1, zq2, zq3]
        refine wp_pushK rfl (.tmp 102) (.tmp 104) 22 3 rfl 1 8 _ Try.underlying22 info_int rfl (by omega) (by omega) (b + 1) _ _ _ (by rfl) hT.own2 p2 (by rfl) #[.int .i64 (nx : Int)] rfl xb2 (by simp [Value.oneCell']) hm9 hT.size ?_
        intro g2 cap2 V4 q1 q2 q3
        replace hT := hT.push2 q1 q2 q3
        clear q1 q2 q3 xb2
        replace hS := HKS.out _ hT.fr
        refine hK _ _ hS ?_
        clear hK
        try simp only [Act.put, zq1, zq2, zq3, zq4, zq5, zq6]
        have hx := hT.fr.blk HX0.out (fun e => e.elim (fun e => by have := (HLA.out _ e).1; omega) (fun e => by have := (HLP.out _ e).1; omega))
        have k0 := Blk.cell hx 0; have k1 := Blk.cell hx 1; have f0 := Blk.frozen hx 0; have f1 := Blk.frozen hx 1
        simp only [List.getElem?_toArray, List.getElem?_cons_zero, List.getElem?_cons_succ] at k0 k1
        have HE := Lib.hid (makeEnd hx hT HBL2.out HBV2.out HG1.out HG2.out)
        clear hx hT hS
        refine anyY_h (i := 19) (by kernel_rfl) (by kernel_rfl) rfl rfl ?_
        intro K hK
        try simp only [zq1, zq2, zq3]
        go_simp
        refine hK _ _ ?_
        clear hK
        try simp only [Act.put, zq1, zq2, zq3, zq4, zq5, zq6]
        refine anyY_h (i := 20) (by kernel_rfl) (by kernel_rfl) rfl rfl ?_
        intro K hK
        try simp only [zq1, zq2, zq3]
        go_simp
        refine hK _ _ ?_
        clear hK
        try simp only [Act.put, zq1, zq2, zq3, zq4, zq5, zq6]
        refine anyY_last (i := 21) (by kernel_rfl) (by kernel_rfl) (by kernel_rfl) rfl rfl ?_
        try simp only [zq1, zq2, zq3]
        go_simp
        try apply_assumption
        clear k0 k1 f0 f1
        go_wp2_with fail
        refine ⟨⟨j + 1, by rw [HF.out]; simp, by have := HNJ.out; omega, Lib.hid ?_⟩, by simp [intOf]; omega⟩
        rw [HF.out]
        have e : (s.c ++ [xn]).length = m + 1 := by rw [List.length_append, HMI.out]; rfl
        show MakeAt _ _ _ _ _ _ _ (s.c ++ [xn]).length _ _
        rw [e]
        exact HE.out
      ·intro K hK
       try simp only [zq1, zq2, zq3]
       go_simp
       obtain ⟨V1, eV⟩ : ∃ W', V0.alloc (.cells #[.int .i64 (nx : Int)] 3) = W' := ⟨_, rfl⟩
       have hb : Below V0.heap.size V0 V1 := by rw [<- eV]; exact (Below.refl _ _).alloc (Nat.le_refl _) _
       have xb2 : Blk V1 V0.heap.size 3 #[.int .i64 (nx : Int)] := by rw [<- eV]; exact Blk.new _ _ _
       have hge := hT.fr.size
       replace hT := hT.bel hb
       rw [eV]
       clear eV hb
       obtain ⟨p2, hp⟩ : ∃ p, V0.heap.size = p := ⟨_, rfl⟩
       have hge2 : V0.heap.size <= p2 := Nat.le_trans hge (Nat.le_of_eq hp)
       rw [hp] at xb2 ⊢
       clear hp hge
       replace hS := HKS.out _ hT.fr
       refine hK _ _ hS ?_
       clear hK
       try simp only [Act.put, zq1, zq2, zq3, zq4, zq5, zq6]
       refine anyY_g (i := 11) (by kernel_rfl) rfl rfl ?_
       intro K hK
       try simp only [zq1, zq2, zq3]
       go_simp
       rw [HXN.out]
       obtain ⟨V2, eV⟩ : ∃ W', V1.alloc (.cells #[.int .i64 xn] 3) = W' := ⟨_, rfl⟩
       have hb : Below V1.heap.size V1 V2 := by rw [<- eV]; exact (Below.refl _ _).alloc (Nat.le_refl _) _
       replace xb2 := Blk.below xb2 hb xb2.lt
       have xb1 : Blk V2 V1.heap.size 3 #[.int .i64 xn] := by rw [<- eV]; exact Blk.new _ _ _
       have hge := hT.fr.size
       replace hT := hT.bel hb
       rw [eV]
       clear eV hb
       obtain ⟨p1, hp⟩ : ∃ p, V1.heap.size = p := ⟨_, rfl⟩
       have hge1 : V0.heap.size <= p1 := Nat.le_trans hge (Nat.le_of_eq hp)
       rw [hp] at xb1 ⊢
       clear hp hge
       replace hS := HKS.out _ hT.fr
       refine hK _ _ hS ?_
       clear hK
       try simp only [Act.put, zq1, zq2, zq3, zq4, zq5, zq6]
       refine anyY_g (i := 12) (by kernel_rfl) rfl rfl ?_
       intro K hK
       try simp only [zq1, zq2, zq3]
       refine wp_pushK rfl (.tmp 89) (.tmp 99) 22 3 rfl 1 8 _ Try.underlying22 info_int rfl (by omega) (by omega) (b + 1) _ _ _ (by rfl) hT.own1 p1 (by rfl) #[.int .i64 xn] rfl xb1 (by simp [Value.oneCell']) hm9 hT.size ?_
       intro g1 cap1 V3 q1 q2 q3
       replace xb2 := Blk.grown xb2 q2 (fun e => by have := HLA.out _ e.symm; omega)
       replace hT := hT.push1 q1 q2 q3
       clear q1 q2 q3 xb1
       replace hS := HKS.out _ hT.fr
       refine hK _ _ hS ?_
       clear hK
       try simp only [Act.put, zq1, zq2, zq3, zq4, zq5, zq6]
       refine tky (i := 18) (v := ?_) hS ?_ ?_
       rotate_left
       ·rintro w' ⟨s0', s1'⟩
        go_simp
        try with_reducible rfl
       try simp only [Act.put, zq1, zq2, zq3, zq4, zq5, zq6]
       refine anyY_g (i := 17) (by kernel_rfl) rfl rfl ?_
       intro K hK
       try simp only [zq1, zq2, zq3]
       refine wp_pushK rfl (.tmp 102) (.tmp 104) 22 3 rfl 1 8 _ Try.underlying22 info_int rfl (by omega) (by omega) (b + 1) _ _ _ (by rfl) hT.own2 p2 (by rfl) #[.int .i64 (nx : Int)] rfl xb2 (by simp [Value.oneCell']) hm9 hT.size ?_
       intro g2 cap2 V4 q1 q2 q3
       replace hT := hT.push2 q1 q2 q3
       clear q1 q2 q3 xb2
       replace hS := HKS.out _ hT.fr
       refine hK _ _ hS ?_
       clear hK
       try simp only [Act.put, zq1, zq2, zq3, zq4, zq5, zq6]
       have hx := hT.fr.blk HX0.out (fun e => e.elim (fun e => by have := (HLA.out _ e).1; omega) (fun e => by have := (HLP.out _ e).1; omega))
       have k0 := Blk.cell hx 0; have k1 := Blk.cell hx 1; have f0 := Blk.frozen hx 0; have f1 := Blk.frozen hx 1
       simp only [List.getElem?_toArray, List.getElem?_cons_zero, List.getElem?_cons_succ] at k0 k1
       have HE := Lib.hid (makeEnd hx hT HBL2.out HBV2.out HG1.out HG2.out)
       clear hx hT hS
       refine anyY_h (i := 19) (by kernel_rfl) (by kernel_rfl) rfl rfl ?_
       intro K hK
       try simp only [zq1, zq2, zq3]
       go_simp
       refine hK _ _ ?_
       clear hK
       try simp only [Act.put, zq1, zq2, zq3, zq4, zq5, zq6]
       refine anyY_h (i := 20) (by kernel_rfl) (by kernel_rfl) rfl rfl ?_
       intro K hK
       try simp only [zq1, zq2, zq3]
       go_simp
       refine hK _ _ ?_
       clear hK
       try simp only [Act.put, zq1, zq2, zq3, zq4, zq5, zq6]
       refine anyY_last (i := 21) (by kernel_rfl) (by kernel_rfl) (by kernel_rfl) rfl rfl ?_
       try simp only [zq1, zq2, zq3]
       go_simp
       try apply_assumption
       clear k0 k1 f0 f1
       go_wp2_with fail
       refine ⟨⟨j + 1, by rw [HF.out]; simp, by have := HNJ.out; omega, Lib.hid ?_⟩, by simp [intOf]; omega⟩
       rw [HF.out]
       have e : (s.c ++ [xn]).length = m + 1 := by rw [List.length_append, HMI.out]; rfl
       show MakeAt _ _ _ _ _ _ _ (s.c ++ [xn]).length _ _
       rw [e]
       exact HE.out
     ·intro K hK
      try simp only [zq1, zq2, zq3]
      go_simp
      obtain ⟨V1, eV⟩ : ∃ W', V0.alloc (.cells #[.int .i64 (nx : Int)] 3) = W' := ⟨_, rfl⟩
      have hb : Below V0.heap.size V0 V1 := by rw [<- eV]; exact (Below.refl _ _).alloc (Nat.le_refl _) _
      have xb2 : Blk V1 V0.heap.size 3 #[.int .i64 (nx : Int)] := by rw [<- eV]; exact Blk.new _ _ _
      have hge := hT.fr.size
      replace hT := hT.bel hb
      rw [eV]
      clear eV hb
      obtain ⟨p2, hp⟩ : ∃ p, V0.heap.size = p := ⟨_, rfl⟩
      have hge2 : V0.heap.size <= p2 := Nat.le_trans hge (Nat.le_of_eq hp)
      rw [hp] at xb2 ⊢
      clear hp hge
      replace hS := HKS.out _ hT.fr
      refine hK _ _ hS ?_
      clear hK
      try simp only [Act.put, zq1, zq2, zq3, zq4, zq5, zq6]
      refine anyY_g (i := 9) (by kernel_rfl) rfl rfl ?_
      intro K hK
      try simp only [zq1, zq2, zq3]
      have hcx : V1.cell? ⟨gc, (m - 1), none⟩ = some (.int .i64 x) := HCX.out _ hT
      first | rw [HJ.out] at hcx | skip
      go_simp
      refine hK _ _ hS ?_
      clear hK
      try simp only [Act.put, zq1, zq2, zq3, zq4, zq5, zq6]
      clear hcx
      refine tky0 (i := 10) (v := ?_) hS ?_ ?_
      rotate_left
      ·rintro w' -
       go_simp
       try with_reducible rfl
      try simp only [Act.put, zq1, zq2, zq3, zq4, zq5, zq6]
      refine anyY_g (i := 11) (by kernel_rfl) rfl rfl ?_
      intro K hK
      try simp only [zq1, zq2, zq3]
      go_simp
      rw [HXN.out]
      obtain ⟨V2, eV⟩ : ∃ W', V1.alloc (.cells #[.int .i64 xn] 3) = W' := ⟨_, rfl⟩
      have hb : Below V1.heap.size V1 V2 := by rw [<- eV]; exact (Below.refl _ _).alloc (Nat.le_refl _) _
      replace xb2 := Blk.below xb2 hb xb2.lt
      have xb1 : Blk V2 V1.heap.size 3 #[.int .i64 xn] := by rw [<- eV]; exact Blk.new _ _ _
      have hge := hT.fr.size
      replace hT := hT.bel hb
      rw [eV]
      clear eV hb
      obtain ⟨p1, hp⟩ : ∃ p, V1.heap.size = p := ⟨_, rfl⟩
      have hge1 : V0.heap.size <= p1 := Nat.le_trans hge (Nat.le_of_eq hp)
      rw [hp] at xb1 ⊢
      clear hp hge
      replace hS := HKS.out _ hT.fr
      refine hK _ _ hS ?_
      clear hK
      try simp only [Act.put, zq1, zq2, zq3, zq4, zq5, zq6]
      refine anyY_g (i := 12) (by kernel_rfl) rfl rfl ?_
      intro K hK
      try simp only [zq1, zq2, zq3]
      refine wp_pushK rfl (.tmp 89) (.tmp 99) 22 3 rfl 1 8 _ Try.underlying22 info_int rfl (by omega) (by omega) (b + 1) _ _ _ (by rfl) hT.own1 p1 (by rfl) #[.int .i64 xn] rfl xb1 (by simp [Value.oneCell']) hm9 hT.size ?_
      intro g1 cap1 V3 q1 q2 q3
      replace xb2 := Blk.grown xb2 q2 (fun e => by have := HLA.out _ e.symm; omega)
      replace hT := hT.push1 q1 q2 q3
      clear q1 q2 q3 xb1
      replace hS := HKS.out _ hT.fr
      refine hK _ _ hS ?_
      clear hK
      try simp only [Act.put, zq1, zq2, zq3, zq4, zq5, zq6]
      refine tky (i := 18) (v := ?_) hS ?_ ?_
      rotate_left
      ·rintro w' ⟨s0', s1'⟩
       go_simp
       try with_reducible rfl
      try simp only [Act.put, zq1, zq2, zq3, zq4, zq5, zq6]
      refine anyY_g (i := 17) (by kernel_rfl) rfl rfl ?_
      intro K hK
      try simp only [zq1, zq2, zq3]
      refine wp_pushK rfl (.tmp 102) (.tmp 104) 22 3 rfl 1 8 _ Try.underlying22 info_int rfl (by omega) (by omega) (b + 1) _ _ _ (by rfl) hT.own2 p2 (by rfl) #[.int .i64 (nx : Int)] rfl xb2 (by simp [Value.oneCell']) hm9 hT.size ?_
      intro g2 cap2 V4 q1 q2 q3
      replace hT := hT.push2 q1 q2 q3
      clear q1 q2 q3 xb2
      replace hS := HKS.out _ hT.fr
      refine hK _ _ hS ?_
      clear hK
      try simp only [Act.put, zq1, zq2, zq3, zq4, zq5, zq6]
      have hx := hT.fr.blk HX0.out (fun e => e.elim (fun e => by have := (HLA.out _ e).1; omega) (fun e => by have := (HLP.out _ e).1; omega))
      have k0 := Blk.cell hx 0; have k1 := Blk.cell hx 1; have f0 := Blk.frozen hx 0; have f1 := Blk.frozen hx 1
      simp only [List.getElem?_toArray, List.getElem?_cons_zero, List.getElem?_cons_succ] at k0 k1
      have HE := Lib.hid (makeEnd hx hT HBL2.out HBV2.out HG1.out HG2.out)
      clear hx hT hS
      refine anyY_h (i := 19) (by kernel_rfl) (by kernel_rfl) rfl rfl ?_
      intro K hK
      try simp only [zq1, zq2, zq3]
      go_simp
      refine hK _ _ ?_
      clear hK
      try simp only [Act.put, zq1, zq2, zq3, zq4, zq5, zq6]
      refine anyY_h (i := 20) (by kernel_rfl) (by kernel_rfl) rfl rfl ?_
      intro K hK
      try simp only [zq1, zq2, zq3]
      go_simp
      refine hK _ _ ?_
      clear hK
      try simp only [Act.put, zq1, zq2, zq3, zq4, zq5, zq6]
      refine anyY_last (i := 21) (by kernel_rfl) (by kernel_rfl) (by kernel_rfl) rfl rfl ?_
      try simp only [zq1, zq2, zq3]
      go_simp
      try apply_assumption
      clear k0 k1 f0 f1
      go_wp2_with fail
      refine ⟨⟨j + 1, by rw [HF.out]; simp, by have := HNJ.out; omega, Lib.hid ?_⟩, by simp [intOf]; omega⟩
      rw [HF.out]
      have e : (s.c ++ [xn]).length = m + 1 := by rw [List.length_append, HMI.out]; rfl
      show MakeAt _ _ _ _ _ _ _ (s.c ++ [xn]).length _ _
      rw [e]
      exact HE.out
    ·have hne : nx = r0n := by have := hokj.le; omega
     have HFIN : Hid (s = makeCL r0n cs) := Lib.hid (by rw [HMKC.out, <- HS.out]; congr 1; omega)
     have hlenl := hokj.len
     obtain ⟨gc, ca, gl, la, hx, ho1, ho2, hgg, hbl, hbv⟩ := HMK.out
     have e2 := EV2.out; have e3 := EV3.out; have e4 := EV4.out; have e5 := EV5.out
     subst e2 e3 e4 e5
     have hbl' : Below W2.heap.size W2 wr := by rw [HBE.out]; exact hbl
     obtain ⟨go, hgo⟩ : ∃ go, BO = some ⟨go, 0, none⟩ := by
      rcases HO2.out.form with ⟨e, e0, -⟩ | ⟨g, c, e, -⟩
      ·omega
      ·simp only [Value.slice.injEq] at e; exact ⟨g, e.1⟩
     subst hgo
     have hgb1 : go < W1.heap.size := HBB.out go rfl
     have h12 : W1.heap.size <= b := by have := HS12.out; have := HBE.out; omega
     have hb00 : b0 < W0.heap.size := by rw [<- HW0.out, World.size_alloc, E0.out]; omega
     have hw00 : w.heap.size <= W0.heap.size := by rw [<- HW0.out, World.size_alloc]; omega
     have hw0g : W0.heap.size <= go := (HO2.out.lt go rfl).1
     have hOlen := lawO_len ns k r0n
     have hOS : OutS w W0.heap.size W1.heap.size b b0 (sl gc m ca) (sl gl m la) (.slice (some ⟨gb, ob, none⟩) k bc) (sl go k oc) (.slice FN k fc) (.slice FE k ec) m k r0n s.c s.l (lawT ns k r0n) vals (outsI k (lawO ns k r0n) 0) (xssT (lawT ms k r0n) k) (xssE (lawEs (lawO ms k r0n)) k) wr :=
      ⟨hx, ho1, ho2, ownsRow_bel HV2.out hbl', fun q hq => ⟨(HR2.out q hq).1.below_top hbl', (HR2.out q hq).2⟩, by rw [outsI_zero hOlen]; exact HO2.out.below_top hbl', HFN.out.frB (Fr.of_below (X := fun _ => False) hbl') (fun _ _ h => h), HFE.out.frB (Fr.of_below (X := fun _ => False) hbl') (fun _ _ h => h), Blk.below X2.out hbl' X2.out.lt, HB2.out.trans (hbl'.mono HB2.out.size)⟩
     have HOS := Lib.hid hOS
     have HML : Hid (s.c.length = m /\ s.l.length = m) := Lib.hid ⟨hm, by rw [hlenl]; exact hm⟩
     have HS12' := Lib.hid (And.intro hgb1 (And.intro h12 (And.intro hb00 (And.intro hw00 hw0g))))
     have nb1 : ¬ b = go := by omega
     have nb2 : ¬ go = b := by omega
     have nb3 : ¬ b0 = go := by omega
     have nb4 : ¬ go = b0 := by omega
     have nb5 : ¬ b0 = b := by omega
     have nb6 : ¬ b = b0 := by omega
     obtain ⟨O, hO⟩ : ∃ O, lawO ns k r0n = O := ⟨_, rfl⟩
     rw [hO] at HOS hOlen
     have HO := Lib.hid hO; have HOL := Lib.hid hOlen
     clear hx ho1 ho2 hgg hbl hbv hbl' hOS hgb1 h12 hb00 hw00 hw0g hO hOlen HMK hm hnxe hnj hlj hlenl hll hokj hstep
     obtain ⟨k0, hk0⟩ : ∃ q : Int, (k : Int) = q := ⟨_, rfl⟩
     have kpos : (0 : Int) < (k : Int) := by omega
     clear hk0
     have i1 : ¬ (nx : Int) < (r0n : Int) := by omega
     have hd5 := HOS.out.x.cell 3
     simp only [List.getElem?_toArray, List.getElem?_cons_zero, List.getElem?_cons_succ] at hd5
     clear hd5
     go_wp2_with fail
     go_loopw [17] (fun vi wr => ∃ i : Nat, vi = .int .i64 (i : Int) /\ i <= k /\ Hid (OutS w W0.heap.size W1.heap.size b b0 (sl gc m ca) (sl gl m la) (.slice (some ⟨gb, ob, none⟩) k bc) (sl go k oc) (.slice FN k fc) (.slice FE k ec) m k r0n s.c s.l (lawT ns k r0n) vals (outsI k O i) (xssT (lawT ms k r0n) k) (xssE (lawEs (lawO ms k r0n)) k) wr)) (fun vi _ => k - (intOf vi).toNat)
     case atStart => exact ⟨0, rfl, Nat.zero_le _, HOS⟩
     case round =>
      clear HOS
      obtain ⟨i, rfl, hi, HOS⟩ := hrel
      have ii0 : (0 : Int) <= (i : Int) := Int.natCast_nonneg _
      have c3 := HOS.out.x.cell 3
      simp only [List.getElem?_toArray, List.getElem?_cons_zero, List.getElem?_cons_succ] at c3
      by_cases hlt : i < k
      ·have ii1 : (i : Int) < (k : Int) := by omega
       obtain ⟨o, ho⟩ : ∃ o, O.getD i 0 = o := ⟨_, rfl⟩
       have hcell : wr.cell? ⟨go, i, none⟩ = some (.int .i64 (o : Int)) := by
        have h := World.ownsRow.cellAt HOS.out.vo i (by omega)
        rw [h, List.getElem?_map]
        have hl : i < (outsI k O i).length := by rw [outsI_len]; exact hlt
        have hat := outsI_at (k := k) (O := O) (i := i) hlt
        rw [if_neg (Nat.lt_irrefl i), ho, List.getD_eq_getElem?_getD, List.getElem?_eq_getElem hl] at hat
        rw [List.getElem?_eq_getElem hl]
        simp only [Option.getD_some] at hat
        rw [hat]; rfl
       have hfz : wr.frozen? ⟨go, i, none⟩ = false := HOS.out.vo.frozen i
       have hset := outsI_set (k := k) (O := O) hlt
       rw [ho] at hset
       have HNX : Hid (OutS w W0.heap.size W1.heap.size b b0 (sl gc m ca) (sl gl m la) (.slice (some ⟨gb, ob, none⟩) k bc) (sl go k oc) (.slice FN k fc) (.slice FE k ec) m k r0n s.c s.l (lawT ns k r0n) vals (outsI k O (i + 1)) (xssT (lawT ms k r0n) k) (xssE (lawEs (lawO ms k r0n)) k) (wr.drew.setCell ⟨go, i, none⟩ (.int .i64 ((o : Int).tmod 2)))) := Lib.hid (by
        have h1 : OutS w W0.heap.size W1.heap.size b b0 (sl gc m ca) (sl gl m la) (.slice (some ⟨gb, ob, none⟩) k bc) (sl go k oc) (.slice FN k fc) (.slice FE k ec) m k r0n s.c s.l (lawT ns k r0n) vals (outsI k O i) (xssT (lawT ms k r0n) k) (xssE (lawEs (lawO ms k r0n)) k) wr.drew := by
         have h := HOS.out
         have hd : Below wr.heap.size wr wr.drew := (Below.refl _ _).drew
         exact ⟨h.x.drew, h.c.drew, h.l.drew, h.vn.drew, fun q hq => ⟨(h.rw_ q hq).1.drew, (h.rw_ q hq).2⟩, h.vo.drew, h.fn.frB (Fr.of_below (X := fun _ => False) hd) (fun _ _ h => h), h.fe.frB (Fr.of_below (X := fun _ => False) hd) (fun _ _ h => h), h.x0.drew, h.low.drew⟩
        have h2 := h1.store HS12'.out.1 HS12'.out.2.1 HS12'.out.2.2.1 HS12'.out.2.2.2.1 i ((o : Int).tmod 2)
        rw [show ((o : Int).tmod 2) = ((o % 2 : Nat) : Int) from rfl] at h2 ⊢
        rw [hset] at h2
        exact h2)
       have hc3' : wr.drew.cell? ⟨b, 3, none⟩ = some (sl go k oc) := c3
       have hcell' : wr.drew.cell? ⟨go, i, none⟩ = some (.int .i64 (o : Int)) := hcell
       have hfz' : wr.drew.frozen? ⟨go, i, none⟩ = false := hfz
       clear ho hset hcell hfz
       go_wp2_with fail
       refine region_x 12 (fun W : World => W.cell? ⟨b, 3, none⟩ = some (sl go k oc) /\ W.cell? ⟨go, i, none⟩ = some (.int .i64 (o : Int))) (by kernel_rfl) ?_
       have hS : (fun W : World => W.cell? ⟨b, 3, none⟩ = some (sl go k oc) /\ W.cell? ⟨go, i, none⟩ = some (.int .i64 (o : Int))) wr.drew := ⟨hc3', hcell'⟩
       clear c3 hc3'
       generalize wr.drew = V0 at *
       refine tkx (i := 0) (v := ?_) hS ?_ ?_
       rotate_left
       ·rintro w' ⟨s0', s1'⟩
        go_simp
        try with_reducible rfl
       try simp only [Act.put, zq1, zq2, zq3, zq4, zq5, zq6]
       refine tkx (i := 1) (v := ?_) hS ?_ ?_
       rotate_left
       ·rintro w' ⟨s0', s1'⟩
        go_simp
        try with_reducible rfl
       try simp only [Act.put, zq1, zq2, zq3, zq4, zq5, zq6]
       refine tkx (i := 2) (v := ?_) hS ?_ ?_
       rotate_left
       ·rintro w' ⟨s0', s1'⟩
        go_simp
        try with_reducible rfl
       try simp only [Act.put, zq1, zq2, zq3, zq4, zq5, zq6]
       refine tkx (i := 3) (v := ?_) hS ?_ ?_
       rotate_left
       ·rintro w' ⟨s0', s1'⟩
        go_simp
        try with_reducible rfl
       try simp only [Act.put, zq1, zq2, zq3, zq4, zq5, zq6]
       refine tkx (i := 4) (v := ?_) hS ?_ ?_
       rotate_left
       ·rintro w' ⟨s0', s1'⟩
        go_simp
        try with_reducible rfl
       try simp only [Act.put, zq1, zq2, zq3, zq4, zq5, zq6]
       refine tkx (i := 5) (v := ?_) hS ?_ ?_
       rotate_left
       ·rintro w' ⟨s0', s1'⟩
        go_simp
        try with_reducible rfl
       try simp only [Act.put, zq1, zq2, zq3, zq4, zq5, zq6]
       refine tkx (i := 6) (v := ?_) hS ?_ ?_
       rotate_left
       ·rintro w' ⟨s0', s1'⟩
        go_simp
        try with_reducible rfl
       try simp only [Act.put, zq1, zq2, zq3, zq4, zq5, zq6]
       refine tkx (i := 7) (v := ?_) hS ?_ ?_
       rotate_left
       ·rintro w' ⟨s0', s1'⟩
        go_simp
        try with_reducible rfl
       try simp only [Act.put, zq1, zq2, zq3, zq4, zq5, zq6]
       refine tkx (i := 8) (v := ?_) hS ?_ ?_
       rotate_left
       ·rintro w' ⟨s0', s1'⟩
        go_simp
        try with_reducible rfl
       try simp only [Act.put, zq1, zq2, zq3, zq4, zq5, zq6]
       refine tkx (i := 9) (v := ?_) hS ?_ ?_
       rotate_left
       ·rintro w' ⟨s0', s1'⟩
        go_simp
        try with_reducible rfl
       try simp only [Act.put, zq1, zq2, zq3, zq4, zq5, zq6]
       refine tkx (i := 10) (v := ?_) hS ?_ ?_
       rotate_left
       ·rintro w' ⟨s0', s1'⟩
        go_simp
        try with_reducible rfl
       try simp only [Act.put, zq1, zq2, zq3, zq4, zq5, zq6]
       refine tkx (i := 11) (v := ?_) hS ?_ ?_
       rotate_left
       ·rintro w' ⟨s0', s1'⟩
        go_simp
        try with_reducible rfl
       try simp only [Act.put, zq1, zq2, zq3, zq4, zq5, zq6]
       refine anyX_last (by kernel_rfl) (by kernel_rfl) rfl rfl ?_
       try simp only [zq1, zq2, zq3]
       go_simp
       try apply_assumption
       clear hS hcell' hfz'
       go_wp2_with fail
       exact ⟨⟨i + 1, by go_num, by omega, HNX⟩, by simp [intOf]; omega⟩
      ·obtain rfl : i = k := by omega
       have c0 := HOS.out.x.cell 0; have c1 := HOS.out.x.cell 1; have c2 := HOS.out.x.cell 2; have c4 := HOS.out.x.cell 4; have c5 := HOS.out.x.cell 5
       have d0 := HOS.out.x0.cell 0; have d1 := HOS.out.x0.cell 1; have d2 := HOS.out.x0.cell 2; have d3 := HOS.out.x0.cell 3; have d4 := HOS.out.x0.cell 4; have d5 := HOS.out.x0.cell 5
       have f0 := HOS.out.x0.frozen 0; have f1 := HOS.out.x0.frozen 1; have f2 := HOS.out.x0.frozen 2; have f3 := HOS.out.x0.frozen 3; have f4 := HOS.out.x0.frozen 4; have f5 := HOS.out.x0.frozen 5
       have fg := HOS.out.vo.frozen 0
       obtain ⟨ox, hox⟩ : ∃ u, wr.cell? ⟨go, 0, none⟩ = some u := by
        have h := World.ownsRow.cellAt HOS.out.vo 0 (by omega)
        have hl : 0 < ((outsI i O i).map (Value.int .i64)).length := by rw [List.length_map, outsI_len]; omega
        rw [List.getElem?_eq_getElem hl] at h
        exact ⟨_, h⟩
       simp only [List.getElem?_toArray, List.getElem?_cons_zero, List.getElem?_cons_succ] at c0 c1 c2 c4 c5 d0 d1 d2 d3 d4 d5
       have HNX := Lib.hid (HOS.out.store HS12'.out.1 HS12'.out.2.1 HS12'.out.2.2.1 HS12'.out.2.2.2.1 0 1)
       rw [outsI_all] at HNX
       go_wp2_with fail
       clear c0 c1 c2 c4 c5 d0 d1 d2 d3 d4 d5 f0 f1 f2 f3 f4 f5 fg hox c3 HOS
       obtain ⟨W9, hW9⟩ : ∃ W, wr.setCell ⟨go, 0, none⟩ (.int .i64 1) = W := ⟨_, rfl⟩
       rw [hW9] at HNX ⊢
       have d0 := HNX.out.x0.cell 0; have d1 := HNX.out.x0.cell 1; have d2 := HNX.out.x0.cell 2; have d3 := HNX.out.x0.cell 3; have d4 := HNX.out.x0.cell 4; have d5 := HNX.out.x0.cell 5
       simp only [List.getElem?_toArray, List.getElem?_cons_zero, List.getElem?_cons_succ] at d0 d1 d2 d3 d4 d5
       refine bodyPost_ret (v := .agg #[sl gc m ca, sl gl m la, .slice (some ⟨gb, ob, none⟩) i bc, sl go i oc, .slice FN i fc, .slice FE i ec]) (by simp [results, Try.results16, go_sem, d0, d1, d2, d3, d4, d5]) rfl ?_
       have hf6 := ((((((Fr.refl (fun q => q = b0) W9).set_ (p := ⟨b0, 0, none⟩) (.inl rfl) (sl gc m ca)).set_ (p := ⟨b0, 1, none⟩) (.inl rfl) (sl gl m la)).set_ (p := ⟨b0, 2, none⟩) (.inl rfl) (.slice (some ⟨gb, ob, none⟩) i bc)).set_ (p := ⟨b0, 3, none⟩) (.inl rfl) (sl go i oc)).set_ (p := ⟨b0, 4, none⟩) (.inl rfl) (.slice FN i fc)).set_ (p := ⟨b0, 5, none⟩) (.inl rfl) (.slice FE i ec)
       have hn4 : ∀ q, q < i -> ((lawT ns i r0n).getD q []).length = r0n := fun q hq => (law_rect ns (k := i) (n := r0n) (by omega)).len q (by rw [lawT_len]; exact hq)
       have htab := fun (W' : World) (hf : Fr (fun q => q <= b0) W9 W') => HNX.out.tab hf HS12'.out.2.2.1 (Nat.le_trans HS12'.out.2.2.2.2 (Nat.le_of_lt HS12'.out.1)) HS12'.out.2.1 HML.out (outsL_len _ _) (lawT_len ns i r0n) hn4 (lawT_len ms i r0n) (fun q hq => xssT_at (lawT ms i r0n) hq) (by rw [lawEs_len, lawO_len]) (fun q hq => xssE_at (lawEs (lawO ms i r0n)) hq)
       have hf7 := hf6.mono (Y := fun q => q <= b0) (fun k _ e => Nat.le_of_eq e)
       refine ⟨_, _, _, _, _, _, rfl, ?_, ?_, HNX.out.low.trans (hf6.below (B := w.heap.size) (HNX.out.low.size) (fun q hq e => by have := E0.out; omega))⟩
       ·unfold lawTab
        rw [HO.out, <- HFIN.out]
        exact htab _ hf7
       ·intro W' h'
        unfold lawTab
        rw [HO.out, <- HFIN.out]
        exact htab _ (hf7.then_ h' (fun k _ e => by have := E0.out; show k <= b0; have e' : k < w.heap.size := e; omega))
  have RESTH := Lib.hid REST
  clear aK9 REST
  go_loopw [13, 14] (fun u vi wr => ∃ i : Nat, vi = .int .i64 (i : Int) /\ i <= cl /\ i <= 6 /\ u = .int .i64 ((someCL r0n (cs.take i)).next : Int) /\ Hid (MakeAt W2 wr b v2 v3 v4 v5 (i + 1) (someCL r0n (cs.take i)).c (someCL r0n (cs.take i)).l)) (fun _ vi _ => 6 - (intOf vi).toNat)
  case atStart => exact ⟨0, rfl, Nat.zero_le _, Nat.zero_le _, rfl, HST0⟩
  case round =>
   clear HST0
   obtain ⟨i, rfl, hic, hi6, rfl, HMK⟩ := hrel
   have i0 : (0 : Int) <= (i : Int) := Int.natCast_nonneg _
   by_cases hlt : i < cl /\ i < 6
   ·obtain ⟨hlc, hl6⟩ := hlt
    have i1 : (i : Int) < (cl : Int) := by omega
    have i2 : (i : Int) < 6 := by omega
    have t1 : decide ((i : Int) < (cl : Int)) = true := by simpa using i1
    have t2 : decide ((i : Int) < 6) = true := by simpa using i2
    obtain ⟨gc, ca, gl, la, hx, ho1, ho2, hgg, hbl, hbv⟩ := HMK.out
    have hbw : Below w.heap.size w wr := HB2.out.trans (hbl.mono (by have := HB2.out.size; have := HBE.out; omega))
    obtain ⟨-, A', c', e', -, -, -, h4⟩ := HC.out.below hbw
    simp only [Value.slice.injEq, true_and] at e'
    obtain ⟨rfl, rfl⟩ := e'
    obtain ⟨gs, os, rfl, hcc⟩ := h4 i hlc
    have hcy := hcc i hlc
    obtain ⟨y, hy⟩ : ∃ y, cs.getD i 0 = y := ⟨_, rfl⟩
    rw [hy] at hcy
    have hlen := someCL_len r0n (cs.take i)
    have hok := someCL_ok (n := r0n) (by omega) (cs.take i)
    have hci : cs.length = cl := HC.out.1
    have hstep : someCL r0n (cs.take (i + 1)) = stepCL r0n (someCL r0n (cs.take i)) y := by
     rw [List.take_add_one, List.getElem?_eq_getElem (by rw [hci]; exact hlc), <- hy, List.getD_eq_getElem?_getD, List.getElem?_eq_getElem (by rw [hci]; exact hlc)]
     exact someCL_snoc _ _ _
    obtain ⟨s, hs⟩ : ∃ s, someCL r0n (cs.take i) = s := ⟨_, rfl⟩
    rw [hs] at hlen hok hstep HMK ho1 ho2
    rw [hs]
    have hm1 : s.c.length = i + 1 := by rw [hlen.1, List.length_take, hci]; omega
    obtain ⟨m, hm⟩ : ∃ m, i + 1 = m := ⟨_, rfl⟩
    rw [hm] at hx ho1 ho2 hm1
    obtain ⟨x, hxe⟩ : ∃ x, s.c.getD (m - 1) 0 = x := ⟨_, rfl⟩
    have hxb := hok.bound x (by rw [<- hxe]; exact getD_mem (by omega))
    rw [hm1] at hxb
    have hx9 : 0 <= x /\ x <= 100000 := by omega
    have hnx := hok.le
    have hn1 := hok.one
    obtain ⟨nx, hnxe⟩ : ∃ q, s.next = q := ⟨_, rfl⟩
    rw [hnxe] at hnx hn1
    rw [hnxe]
    have hK0 : 0 <= y % 1073741824 := Int.emod_nonneg _ (by decide)
    have hK1 : y % 1073741824 < 1073741824 := Int.emod_lt_of_pos _ (by decide)
    have HX := Lib.hid hx; have HO1 := Lib.hid ho1; have HO2 := Lib.hid ho2; have HG := Lib.hid hgg; have HBL := Lib.hid hbl; have HBV := Lib.hid hbv; have HM1 : Hid (1 <= m /\ s.c.length = m) := Lib.hid ⟨by omega, hm1⟩
    have HXV := Lib.hid hxe; have HNX := Lib.hid hnxe; have HSTEP := Lib.hid hstep; have HS := Lib.hid hs; have HY := Lib.hid hy; have HOK := Lib.hid hok; have HMI := Lib.hid hm
    have HW := Lib.hid (twithin2_any y 1073741824 (by decide) (by decide) wr)
    clear hx ho1 ho2 hgg hbl hbv hm1 hxe hnxe hstep hs hy hok hlen hci hcc h4 hbw HMK hxb hm
    go_wp2_with fail
    refine HW.out.mono ?_
    rintro e w9 ⟨rfl, hw9⟩
    subst hw9
    obtain ⟨KK, hK⟩ : ∃ K, y % 1073741824 = K := ⟨_, rfl⟩
    rw [hK] at hK0 hK1 ⊢
    have HK2 := Lib.hid hK
    clear hK HW
    have hmod0 : 0 <= KK % (r0n : Int) := Int.emod_nonneg _ (by omega)
    have hmod1 : KK % (r0n : Int) < (r0n : Int) := Int.emod_lt_of_pos _ (by omega)
    have htm : KK.tmod (r0n : Int) = KK % (r0n : Int) := Int.tmod_eq_emod_of_nonneg hK0
    have hr0 : ¬ (r0n : Int) = 0 := by omega
    obtain ⟨z0, hz0⟩ : ∃ z : Nat, KK % (r0n : Int) = (z : Int) := ⟨(KK % (r0n : Int)).toNat, by omega⟩
    rw [hz0] at htm hmod0 hmod1
    have HZ0 := Lib.hid hz0
    clear hz0
    obtain ⟨xn, hxn⟩ : ∃ q, IntKind.i64.wrap (IntKind.i64.wrap (x + 1) + (IntKind.i64.wrap (KK.tdiv 8)).tmod 1000) = q := ⟨_, rfl⟩
    have hxe : xn = x + (1 + KK / 8 % 1000) := by
     have e1 : KK.tdiv 8 = KK / 8 := Int.tdiv_eq_ediv_of_nonneg hK0
     have e2 : IntKind.i64.wrap (KK / 8) = KK / 8 := IntWalk.i64_in _ (by omega)
     have e3 : (KK / 8).tmod 1000 = KK / 8 % 1000 := Int.tmod_eq_emod_of_nonneg (by omega)
     have e4 : IntKind.i64.wrap (x + 1) = x + 1 := IntWalk.i64_in _ (by omega)
     have e5 : IntKind.i64.wrap (x + 1 + KK / 8 % 1000) = x + 1 + KK / 8 % 1000 := IntWalk.i64_in _ (by omega)
     rw [<- hxn, e1, e2, e3, e4, e5]
     omega
    have HXN := Lib.hid hxn; have HXE := Lib.hid hxe
    clear hxn hxe
    have hmi := HMI.out
    have i3 : (i : Int) < (m : Int) := by omega
    have hm9 : m <= 1000000 := by omega
    have HJ : Hid (m - 1 = i) := Lib.hid (by omega)
    have HFG : Hid (∀ z : Nat, zOf r0n nx (y % 1073741824) = z -> someCL r0n (cs.take (i + 1)) = ⟨s.c ++ [xn], s.l ++ [(z : Int)], if z = nx then nx + 1 else nx⟩) := Lib.hid (fun z hz => by
     rw [HSTEP.out]
     unfold stepCL CL.push
     rw [HNX.out, hz, HM1.out.2, HXV.out, HXE.out, HK2.out])
    have hzo : zOf r0n nx (y % 1073741824) = if (nx : Int) < (z0 : Int) then nx else z0 := by
     unfold zOf
     rw [HK2.out, HZ0.out]
     split
     ·rfl
     ·exact Int.toNat_natCast z0
    clear hmi
    by_cases hA : (nx : Int) < (z0 : Int)
    ·have tA : decide ((nx : Int) < (z0 : Int)) = true := by simpa using hA
     rw [if_pos hA] at hzo
     have HF : Hid (someCL r0n (cs.take (i + 1)) = ⟨s.c ++ [xn], s.l ++ [(nx : Int)], nx + 1⟩) := Lib.hid (by have := HFG.out nx hzo; rwa [if_pos rfl] at this)
     clear hzo HFG
     go_wp2_with fail
     have HAP : Hid (Apart (sl gc m ca) (sl gl m la)) := Lib.hid (.inr (.inr (by simp only [Value.ownBlock]; intro e; injection e with e; exact HG.out e)))
     have HG1 : Hid (b + 1 <= gc) := Lib.hid (HO1.out.lt gc rfl).1
     have HG2 : Hid (b + 1 <= gl) := Lib.hid (HO2.out.lt gl rfl).1
     have HBW : Hid (b + 1 <= wr.heap.size) := Lib.hid HBV.out
     obtain ⟨V0, eV⟩ : ∃ W', wr.drew = W' := ⟨_, rfl⟩
     have HX0 : Hid (Blk V0 b 32 #[sl gc m ca, sl gl m la, v2, v3, v4, v5]) := Lib.hid (by rw [<- eV]; exact Blk.drew HX.out)
     have HT : Hid (TwoRows (b + 1) 3 3 V0 (sl gc m ca) (sl gl m la) V0 (sl gc m ca) m (s.c.map (Value.int .i64)) (sl gl m la) m (s.l.map (Value.int .i64))) := Lib.hid (by rw [<- eV]; exact (TwoRows.start HO1.out HO2.out HAP.out HBW.out).drew0)
     have HLA : Hid (∀ q, (sl gc m ca).ownBlock = some q -> b + 1 <= q /\ q < V0.heap.size) := Lib.hid HT.out.own1.lt
     have HLP : Hid (∀ q, (sl gl m la).ownBlock = some q -> b + 1 <= q /\ q < V0.heap.size) := Lib.hid HT.out.own2.lt
     have HBL2 : Hid (Below b W2 V0) := Lib.hid (by rw [<- eV]; exact HBL.out.drew)
     have HBV2 : Hid (b < V0.heap.size) := Lib.hid (by rw [<- eV]; exact HBV.out)
     have HKS : Hid (∀ W : World, Fr (fun q => (sl gc m ca).ownBlock = some q \/ (sl gl m la).ownBlock = some q) V0 W -> (fun W : World => W.cell? ⟨b, 0, none⟩ = some (sl gc m ca) /\ W.cell? ⟨b, 1, none⟩ = some (sl gl m la)) W) := Lib.hid (fun W hW => by
       have hx := hW.blk HX0.out (fun e => e.elim (fun e => by have := (HLA.out _ e).1; omega) (fun e => by have := (HLP.out _ e).1; omega))
       have k0 := hx.cell 0; have k1 := hx.cell 1
       simpa using And.intro k0 k1)
     have HCX : Hid (∀ W : World, TwoRows (b + 1) 3 3 V0 (sl gc m ca) (sl gl m la) W (sl gc m ca) m (s.c.map (Value.int .i64)) (sl gl m la) m (s.l.map (Value.int .i64)) -> W.cell? ⟨gc, m - 1, none⟩ = some (.int .i64 x)) := Lib.hid (fun W hW => by
       have h := World.ownsRow.cellAt hW.own1 (m - 1) (by have := HM1.out; omega)
       rw [h, List.getElem?_map, <- HXV.out, List.getD_eq_getElem?_getD]
       have hl : m - 1 < s.c.length := by have := HO1.out.len; have := HM1.out; omega
       rw [List.getElem?_eq_getElem hl]; rfl)
     go_wp2_with fail
     refine region_y 20 (fun W : World => W.cell? ⟨b, 0, none⟩ = some (sl gc m ca) /\ W.cell? ⟨b, 1, none⟩ = some (sl gl m la)) (by kernel_rfl) ?_
     rw [eV]
     clear eV
     have hT := HT.out
     have hS := HKS.out _ hT.fr
     refine tky (i := 0) (v := ?_) hS ?_ ?_
     rotate_left
     ·rintro w' ⟨s0', s1'⟩
      go_simp
      try with_reducible rfl
     try simp only [Act.put, zq1, zq2, zq3, zq4, zq5, zq6]
     refine tky (i := 1) (v := ?_) hS ?_ ?_
     rotate_left
     ·rintro w' ⟨s0', s1'⟩
      go_simp
      try with_reducible rfl
     try simp only [Act.put, zq1, zq2, zq3, zq4, zq5, zq6]
     refine tky (i := 2) (v := ?_) hS ?_ ?_
     rotate_left
     ·rintro w' ⟨s0', s1'⟩
      go_simp
      try with_reducible rfl
     try simp only [Act.put, zq1, zq2, zq3, zq4, zq5, zq6]
     refine tky (i := 3) (v := ?_) hS ?_ ?_
     rotate_left
     ·rintro w' ⟨s0', s1'⟩
      go_simp
      try with_reducible rfl
     try simp only [Act.put, zq1, zq2, zq3, zq4, zq5, zq6]
     refine tky (i := 4) (v := ?_) hS ?_ ?_
     rotate_left
     ·rintro w' ⟨s0', s1'⟩
      go_simp
      try with_reducible rfl
     try simp only [Act.put, zq1, zq2, zq3, zq4, zq5, zq6]
     refine tky (i := 5) (v := ?_) hS ?_ ?_
     rotate_left
     ·rintro w' ⟨s0', s1'⟩
      go_simp
      try with_reducible rfl
     try simp only [Act.put, zq1, zq2, zq3, zq4, zq5, zq6]
     refine tky (i := 8) (v := ?_) hS ?_ ?_
     rotate_left
     ·rintro w' ⟨s0', s1'⟩
      go_simp
      try with_reducible rfl
     try simp only [Act.put, zq1, zq2, zq3, zq4, zq5, zq6]
     refine tky (i := 9) (v := ?_) hS ?_ ?_
     rotate_left
     ·rintro w' ⟨s0', s1'⟩
      go_simp
      try with_reducible rfl
     try simp only [Act.put, zq1, zq2, zq3, zq4, zq5, zq6]
     refine tky (i := 10) (v := ?_) hS ?_ ?_
     rotate_left
     ·rintro w' ⟨s0', s1'⟩
      go_simp
      try with_reducible rfl
     try simp only [Act.put, zq1, zq2, zq3, zq4, zq5, zq6]
     refine tky (i := 14) (v := ?_) hS ?_ ?_
     rotate_left
     ·rintro w' ⟨s0', s1'⟩
      go_simp
      try with_reducible rfl
     try simp only [Act.put, zq1, zq2, zq3, zq4, zq5, zq6]
     refine tky (i := 15) (v := ?_) hS ?_ ?_
     rotate_left
     ·rintro w' ⟨s0', s1'⟩
      go_simp
      try with_reducible rfl
     try simp only [Act.put, zq1, zq2, zq3, zq4, zq5, zq6]
     refine tkyg [18, 17] (i := 16) (v := ?_) hS ?_ ?_
     rotate_left
     ·rintro w' ⟨s0', s1'⟩
      go_simp
      try with_reducible rfl
     try simp only [Act.put, zq1, zq2, zq3, zq4, zq5, zq6]
     refine anyY_2 (i := 6) (j := 17) (by kernel_rfl) rfl rfl rfl rfl ?_ ?_
     ·intro K hK
      try simp only [zq1, zq2, zq3]
      have hcx : V0.cell? ⟨gc, (m - 1), none⟩ = some (.int .i64 x) := HCX.out _ hT
      first | rw [HJ.out] at hcx | skip
      go_simp
      refine hK _ _ hS ?_
      clear hK
      try simp only [Act.put, zq1, zq2, zq3, zq4, zq5, zq6]
      clear hcx
      refine tky0 (i := 7) (v := ?_) hS ?_ ?_
      rotate_left
      ·rintro w' -
       go_simp
       try with_reducible rfl
      try simp only [Act.put, zq1, zq2, zq3, zq4, zq5, zq6]
      refine tky0 (i := 11) (v := ?_) hS ?_ ?_
      rotate_left
      ·rintro w' -
       go_simp
       try with_reducible rfl
      try simp only [Act.put, zq1, zq2, zq3, zq4, zq5, zq6]
      refine anyY_2 (i := 12) (j := 17) (by kernel_rfl) rfl rfl rfl rfl ?_ ?_
      ·intro K hK
       try simp only [zq1, zq2, zq3]
       go_simp
       rw [HXN.out]
       obtain ⟨V1, eV⟩ : ∃ W', V0.alloc (.cells #[.int .i64 xn] 3) = W' := ⟨_, rfl⟩
       have hb : Below V0.heap.size V0 V1 := by rw [<- eV]; exact (Below.refl _ _).alloc (Nat.le_refl _) _
       have xb1 : Blk V1 V0.heap.size 3 #[.int .i64 xn] := by rw [<- eV]; exact Blk.new _ _ _
       have hge := hT.fr.size
       replace hT := hT.bel hb
       rw [eV]
       clear eV hb
       obtain ⟨p1, hp⟩ : ∃ p, V0.heap.size = p := ⟨_, rfl⟩
       have hge1 : V0.heap.size <= p1 := Nat.le_trans hge (Nat.le_of_eq hp)
       rw [hp] at xb1 ⊢
       clear hp hge
       replace hS := HKS.out _ hT.fr
       refine hK _ _ hS ?_
       clear hK
       try simp only [Act.put, zq1, zq2, zq3, zq4, zq5, zq6]
       refine anyY_2 (i := 13) (j := 17) (by kernel_rfl) rfl rfl rfl rfl ?_ ?_
       ·intro K hK
        try simp only [zq1, zq2, zq3]
        refine wp_pushK rfl (.tmp 65) (.tmp 76) 22 3 rfl 1 8 _ Try.underlying22 info_int rfl (by omega) (by omega) (b + 1) _ _ _ (by rfl) hT.own1 p1 (by rfl) #[.int .i64 xn] rfl xb1 (by simp [Value.oneCell']) hm9 hT.size ?_
        intro g1 cap1 V2 q1 q2 q3
        replace hT := hT.push1 q1 q2 q3
        clear q1 q2 q3 xb1
        replace hS := HKS.out _ hT.fr
        refine hK _ _ hS ?_
        clear hK
        try simp only [Act.put, zq1, zq2, zq3, zq4, zq5, zq6]
        refine tky (i := 19) (v := ?_) hS ?_ ?_
        rotate_left
        ·rintro w' ⟨s0', s1'⟩
         go_simp
         try with_reducible rfl
        try simp only [Act.put, zq1, zq2, zq3, zq4, zq5, zq6]
        refine anyY_g (i := 17) (by kernel_rfl) rfl rfl ?_
        intro K hK
        try simp only [zq1, zq2, zq3]
        go_simp
        obtain ⟨V3, eV⟩ : ∃ W', V2.alloc (.cells #[.int .i64 (nx : Int)] 3) = W' := ⟨_, rfl⟩
        have hb : Below V2.heap.size V2 V3 := by rw [<- eV]; exact (Below.refl _ _).alloc (Nat.le_refl _) _
        have xb2 : Blk V3 V2.heap.size 3 #[.int .i64 (nx : Int)] := by rw [<- eV]; exact Blk.new _ _ _
        have hge := hT.fr.size
        replace hT := hT.bel hb
        rw [eV]
        clear eV hb
        obtain ⟨p2, hp⟩ : ∃ p, V2.heap.size = p := ⟨_, rfl⟩
        have hge2 : V0.heap.size <= p2 := Nat.le_trans hge (Nat.le_of_eq hp)
        rw [hp] at xb2 ⊢
        clear hp hge
        replace hS := HKS.out _ hT.fr
        refine hK _ _ hS ?_
        clear hK
        try simp only [Act.put, zq1, zq2, zq3, zq4, zq5, zq6]
        refine anyY_g (i := 18) (by kernel_rfl) rfl rfl ?_
        intro K hK
        try simp only [zq1, zq2, zq3]
        refine wp_pushK rfl (.tmp 79) (.tmp 81) 22 3 rfl 1 8 _ Try.underlying22 info_int rfl (by omega) (by omega) (b + 1) _ _ _ (by rfl) hT.own2 p2 (by rfl) #[.int .i64 (nx : Int)] rfl xb2 (by simp [Value.oneCell']) hm9 hT.size ?_
        intro g2 cap2 V4 q1 q2 q3
        replace hT := hT.push2 q1 q2 q3
        clear q1 q2 q3 xb2
        replace hS := HKS.out _ hT.fr
        refine hK _ _ hS ?_
        clear hK
        try simp only [Act.put, zq1, zq2, zq3, zq4, zq5, zq6]
        have hx := hT.fr.blk HX0.out (fun e => e.elim (fun e => by have := (HLA.out _ e).1; omega) (fun e => by have := (HLP.out _ e).1; omega))
        have k0 := Blk.cell hx 0; have k1 := Blk.cell hx 1; have f0 := Blk.frozen hx 0; have f1 := Blk.frozen hx 1
        simp only [List.getElem?_toArray, List.getElem?_cons_zero, List.getElem?_cons_succ] at k0 k1
        have HE := Lib.hid (makeEnd hx hT HBL2.out HBV2.out HG1.out HG2.out)
        clear hx hT hS
        refine anyY_h (i := 20) (by kernel_rfl) (by kernel_rfl) rfl rfl ?_
        intro K hK
        try simp only [zq1, zq2, zq3]
        go_simp
        refine hK _ _ ?_
        clear hK
        try simp only [Act.put, zq1, zq2, zq3, zq4, zq5, zq6]
        refine anyY_h (i := 21) (by kernel_rfl) (by kernel_rfl) rfl rfl ?_
        intro K hK
        try simp only [zq1, zq2, zq3]
        go_simp
        refine hK _ _ ?_
        clear hK
        try simp only [Act.put, zq1, zq2, zq3, zq4, zq5, zq6]
        refine anyY_last (i := 22) (by kernel_rfl) (by kernel_rfl) (by kernel_rfl) rfl rfl ?_
        try simp only [zq1, zq2, zq3]
        go_simp
        try apply_assumption
        clear k0 k1 f0 f1
        go_wp2_with fail
        refine ⟨⟨i + 1, by go_num, by omega, by omega, by first | (rw [HF.out]; done) | (rw [HF.out]; simp), Lib.hid ?_⟩, by simp [intOf]; omega⟩
        rw [HF.out, show i + 1 + 1 = m + 1 by rw [HMI.out]]
        exact HE.out
       ·intro K hK
        try simp only [zq1, zq2, zq3]
        go_simp
        obtain ⟨V2, eV⟩ : ∃ W', V1.alloc (.cells #[.int .i64 (nx : Int)] 3) = W' := ⟨_, rfl⟩
        have hb : Below V1.heap.size V1 V2 := by rw [<- eV]; exact (Below.refl _ _).alloc (Nat.le_refl _) _
        replace xb1 := Blk.below xb1 hb xb1.lt
        have xb2 : Blk V2 V1.heap.size 3 #[.int .i64 (nx : Int)] := by rw [<- eV]; exact Blk.new _ _ _
        have hge := hT.fr.size
        replace hT := hT.bel hb
        rw [eV]
        clear eV hb
        obtain ⟨p2, hp⟩ : ∃ p, V1.heap.size = p := ⟨_, rfl⟩
        have hge2 : V0.heap.size <= p2 := Nat.le_trans hge (Nat.le_of_eq hp)
        rw [hp] at xb2 ⊢
        clear hp hge
        replace hS := HKS.out _ hT.fr
        refine hK _ _ hS ?_
        clear hK
        try simp only [Act.put, zq1, zq2, zq3, zq4, zq5, zq6]
        refine anyY_g (i := 13) (by kernel_rfl) rfl rfl ?_
        intro K hK
        try simp only [zq1, zq2, zq3]
        refine wp_pushK rfl (.tmp 65) (.tmp 76) 22 3 rfl 1 8 _ Try.underlying22 info_int rfl (by omega) (by omega) (b + 1) _ _ _ (by rfl) hT.own1 p1 (by rfl) #[.int .i64 xn] rfl xb1 (by simp [Value.oneCell']) hm9 hT.size ?_
        intro g1 cap1 V3 q1 q2 q3
        replace xb2 := Blk.grown xb2 q2 (fun e => by have := HLA.out _ e.symm; omega)
        replace hT := hT.push1 q1 q2 q3
        clear q1 q2 q3 xb1
        replace hS := HKS.out _ hT.fr
        refine hK _ _ hS ?_
        clear hK
        try simp only [Act.put, zq1, zq2, zq3, zq4, zq5, zq6]
        refine tky (i := 19) (v := ?_) hS ?_ ?_
        rotate_left
        ·rintro w' ⟨s0', s1'⟩
         go_simp
         try with_reducible rfl
        try simp only [Act.put, zq1, zq2, zq3, zq4, zq5, zq6]
        refine anyY_g (i := 18) (by kernel_rfl) rfl rfl ?_
        intro K hK
        try simp only [zq1, zq2, zq3]
        refine wp_pushK rfl (.tmp 79) (.tmp 81) 22 3 rfl 1 8 _ Try.underlying22 info_int rfl (by omega) (by omega) (b + 1) _ _ _ (by rfl) hT.own2 p2 (by rfl) #[.int .i64 (nx : Int)] rfl xb2 (by simp [Value.oneCell']) hm9 hT.size ?_
        intro g2 cap2 V4 q1 q2 q3
        replace hT := hT.push2 q1 q2 q3
        clear q1 q2 q3 xb2
        replace hS := HKS.out _ hT.fr
        refine hK _ _ hS ?_
        clear hK
        try simp only [Act.put, zq1, zq2, zq3, zq4, zq5, zq6]
        have hx := hT.fr.blk HX0.out (fun e => e.elim (fun e => by have := (HLA.out _ e).1; omega) (fun e => by have := (HLP.out _ e).1; omega))
        have k0 := Blk.cell hx 0; have k1 := Blk.cell hx 1; have f0 := Blk.frozen hx 0; have f1 := Blk.frozen hx 1
        simp only [List.getElem?_toArray, List.getElem?_cons_zero, List.getElem?_cons_succ] at k0 k1
        have HE := Lib.hid (makeEnd hx hT HBL2.out HBV2.out HG1.out HG2.out)
        clear hx hT hS
        refine anyY_h (i := 20) (by kernel_rfl) (by kernel_rfl) rfl rfl ?_
        intro K hK
        try simp only [zq1, zq2, zq3]
        go_simp
        refine hK _ _ ?_
        clear hK
        try simp only [Act.put, zq1, zq2, zq3, zq4, zq5, zq6]
        refine anyY_h (i := 21) (by kernel_rfl) (by kernel_rfl) rfl rfl ?_
        intro K hK
        try simp only [zq1, zq2, zq3]
        go_simp
        refine hK _ _ ?_
        clear hK
        try simp only [Act.put, zq1, zq2, zq3, zq4, zq5, zq6]
        refine anyY_last (i := 22) (by kernel_rfl) (by kernel_rfl) (by kernel_rfl) rfl rfl ?_
        try simp only [zq1, zq2, zq3]
        go_simp
        try apply_assumption
        clear k0 k1 f0 f1
        go_wp2_with fail
        refine ⟨⟨i + 1, by go_num, by omega, by omega, by first | (rw [HF.out]; done) | (rw [HF.out]; simp), Lib.hid ?_⟩, by simp [intOf]; omega⟩
        rw [HF.out, show i + 1 + 1 = m + 1 by rw [HMI.out]]
        exact HE.out
      ·intro K hK
       try simp only [zq1, zq2, zq3]
       go_simp
       obtain ⟨V1, eV⟩ : ∃ W', V0.alloc (.cells #[.int .i64 (nx : Int)] 3) = W' := ⟨_, rfl⟩
       have hb : Below V0.heap.size V0 V1 := by rw [<- eV]; exact (Below.refl _ _).alloc (Nat.le_refl _) _
       have xb2 : Blk V1 V0.heap.size 3 #[.int .i64 (nx : Int)] := by rw [<- eV]; exact Blk.new _ _ _
       have hge := hT.fr.size
       replace hT := hT.bel hb
       rw [eV]
       clear eV hb
       obtain ⟨p2, hp⟩ : ∃ p, V0.heap.size = p := ⟨_, rfl⟩
       have hge2 : V0.heap.size <= p2 := Nat.le_trans hge (Nat.le_of_eq hp)
       rw [hp] at xb2 ⊢
       clear hp hge
       replace hS := HKS.out _ hT.fr
       refine hK _ _ hS ?_
       clear hK
       try simp only [Act.put, zq1, zq2, zq3, zq4, zq5, zq6]
       refine anyY_g (i := 12) (by kernel_rfl) rfl rfl ?_
       intro K hK
       try simp only [zq1, zq2, zq3]
       go_simp
       rw [HXN.out]
       obtain ⟨V2, eV⟩ : ∃ W', V1.alloc (.cells #[.int .i64 xn] 3) = W' := ⟨_, rfl⟩
       have hb : Below V1.heap.size V1 V2 := by rw [<- eV]; exact (Below.refl _ _).alloc (Nat.le_refl _) _
       replace xb2 := Blk.below xb2 hb xb2.lt
       have xb1 : Blk V2 V1.heap.size 3 #[.int .i64 xn] := by rw [<- eV]; exact Blk.new _ _ _
       have hge := hT.fr.size
       replace hT := hT.bel hb
       rw [eV]
       clear eV hb
       obtain ⟨p1, hp⟩ : ∃ p, V1.heap.size = p := ⟨_, rfl⟩
       have hge1 : V0.heap.size <= p1 := Nat.le_trans hge (Nat.le_of_eq hp)
       rw [hp] at xb1 ⊢
       clear hp hge
       replace hS := HKS.out _ hT.fr
       refine hK _ _ hS ?_
       clear hK
       try simp only [Act.put, zq1, zq2, zq3, zq4, zq5, zq6]
       refine anyY_g (i := 13) (by kernel_rfl) rfl rfl ?_
       intro K hK
       try simp only [zq1, zq2, zq3]
       refine wp_pushK rfl (.tmp 65) (.tmp 76) 22 3 rfl 1 8 _ Try.underlying22 info_int rfl (by omega) (by omega) (b + 1) _ _ _ (by rfl) hT.own1 p1 (by rfl) #[.int .i64 xn] rfl xb1 (by simp [Value.oneCell']) hm9 hT.size ?_
       intro g1 cap1 V3 q1 q2 q3
       replace xb2 := Blk.grown xb2 q2 (fun e => by have := HLA.out _ e.symm; omega)
       replace hT := hT.push1 q1 q2 q3
       clear q1 q2 q3 xb1
       replace hS := HKS.out _ hT.fr
       refine hK _ _ hS ?_
       clear hK
       try simp only [Act.put, zq1, zq2, zq3, zq4, zq5, zq6]
       refine tky (i := 19) (v := ?_) hS ?_ ?_
       rotate_left
       ·rintro w' ⟨s0', s1'⟩
        go_simp
        try with_reducible rfl
       try simp only [Act.put, zq1, zq2, zq3, zq4, zq5, zq6]
       refine anyY_g (i := 18) (by kernel_rfl) rfl rfl ?_
       intro K hK
       try simp only [zq1, zq2, zq3]
       refine wp_pushK rfl (.tmp 79) (.tmp 81) 22 3 rfl 1 8 _ Try.underlying22 info_int rfl (by omega) (by omega) (b + 1) _ _ _ (by rfl) hT.own2 p2 (by rfl) #[.int .i64 (nx : Int)] rfl xb2 (by simp [Value.oneCell']) hm9 hT.size ?_
       intro g2 cap2 V4 q1 q2 q3
       replace hT := hT.push2 q1 q2 q3
       clear q1 q2 q3 xb2
       replace hS := HKS.out _ hT.fr
       refine hK _ _ hS ?_
       clear hK
       try simp only [Act.put, zq1, zq2, zq3, zq4, zq5, zq6]
       have hx := hT.fr.blk HX0.out (fun e => e.elim (fun e => by have := (HLA.out _ e).1; omega) (fun e => by have := (HLP.out _ e).1; omega))
       have k0 := Blk.cell hx 0; have k1 := Blk.cell hx 1; have f0 := Blk.frozen hx 0; have f1 := Blk.frozen hx 1
       simp only [List.getElem?_toArray, List.getElem?_cons_zero, List.getElem?_cons_succ] at k0 k1
       have HE := Lib.hid (makeEnd hx hT HBL2.out HBV2.out HG1.out HG2.out)
       clear hx hT hS
       refine anyY_h (i := 20) (by kernel_rfl) (by kernel_rfl) rfl rfl ?_
       intro K hK
       try simp only [zq1, zq2, zq3]
       go_simp
       refine hK _ _ ?_
       clear hK
       try simp only [Act.put, zq1, zq2, zq3, zq4, zq5, zq6]
       refine anyY_h (i := 21) (by kernel_rfl) (by kernel_rfl) rfl rfl ?_
       intro K hK
       try simp only [zq1, zq2, zq3]
       go_simp
       refine hK _ _ ?_
       clear hK
       try simp only [Act.put, zq1, zq2, zq3, zq4, zq5, zq6]
       refine anyY_last (i := 22) (by kernel_rfl) (by kernel_rfl) (by kernel_rfl) rfl rfl ?_
       try simp only [zq1, zq2, zq3]
       go_simp
       try apply_assumption
       clear k0 k1 f0 f1
       go_wp2_with fail
       refine ⟨⟨i + 1, by go_num, by omega, by omega, by first | (rw [HF.out]; done) | (rw [HF.out]; simp), Lib.hid ?_⟩, by simp [intOf]; omega⟩
       rw [HF.out, show i + 1 + 1 = m + 1 by rw [HMI.out]]
       exact HE.out
     ·intro K hK
      try simp only [zq1, zq2, zq3]
      go_simp
      obtain ⟨V1, eV⟩ : ∃ W', V0.alloc (.cells #[.int .i64 (nx : Int)] 3) = W' := ⟨_, rfl⟩
      have hb : Below V0.heap.size V0 V1 := by rw [<- eV]; exact (Below.refl _ _).alloc (Nat.le_refl _) _
      have xb2 : Blk V1 V0.heap.size 3 #[.int .i64 (nx : Int)] := by rw [<- eV]; exact Blk.new _ _ _
      have hge := hT.fr.size
      replace hT := hT.bel hb
      rw [eV]
      clear eV hb
      obtain ⟨p2, hp⟩ : ∃ p, V0.heap.size = p := ⟨_, rfl⟩
      have hge2 : V0.heap.size <= p2 := Nat.le_trans hge (Nat.le_of_eq hp)
      rw [hp] at xb2 ⊢
      clear hp hge
      replace hS := HKS.out _ hT.fr
      refine hK _ _ hS ?_
      clear hK
      try simp only [Act.put, zq1, zq2, zq3, zq4, zq5, zq6]
      refine anyY_g (i := 6) (by kernel_rfl) rfl rfl ?_
      intro K hK
      try simp only [zq1, zq2, zq3]
      have hcx : V1.cell? ⟨gc, (m - 1), none⟩ = some (.int .i64 x) := HCX.out _ hT
      first | rw [HJ.out] at hcx | skip
      go_simp
      refine hK _ _ hS ?_
      clear hK
      try simp only [Act.put, zq1, zq2, zq3, zq4, zq5, zq6]
      clear hcx
      refine tky0 (i := 7) (v := ?_) hS ?_ ?_
      rotate_left
      ·rintro w' -
       go_simp
       try with_reducible rfl
      try simp only [Act.put, zq1, zq2, zq3, zq4, zq5, zq6]
      refine tky0 (i := 11) (v := ?_) hS ?_ ?_
      rotate_left
      ·rintro w' -
       go_simp
       try with_reducible rfl
      try simp only [Act.put, zq1, zq2, zq3, zq4, zq5, zq6]
      refine anyY_g (i := 12) (by kernel_rfl) rfl rfl ?_
      intro K hK
      try simp only [zq1, zq2, zq3]
      go_simp
      rw [HXN.out]
      obtain ⟨V2, eV⟩ : ∃ W', V1.alloc (.cells #[.int .i64 xn] 3) = W' := ⟨_, rfl⟩
      have hb : Below V1.heap.size V1 V2 := by rw [<- eV]; exact (Below.refl _ _).alloc (Nat.le_refl _) _
      replace xb2 := Blk.below xb2 hb xb2.lt
      have xb1 : Blk V2 V1.heap.size 3 #[.int .i64 xn] := by rw [<- eV]; exact Blk.new _ _ _
      have hge := hT.fr.size
      replace hT := hT.bel hb
      rw [eV]
      clear eV hb
      obtain ⟨p1, hp⟩ : ∃ p, V1.heap.size = p := ⟨_, rfl⟩
      have hge1 : V0.heap.size <= p1 := Nat.le_trans hge (Nat.le_of_eq hp)
      rw [hp] at xb1 ⊢
      clear hp hge
      replace hS := HKS.out _ hT.fr
      refine hK _ _ hS ?_
      clear hK
      try simp only [Act.put, zq1, zq2, zq3, zq4, zq5, zq6]
      refine anyY_g (i := 13) (by kernel_rfl) rfl rfl ?_
      intro K hK
      try simp only [zq1, zq2, zq3]
      refine wp_pushK rfl (.tmp 65) (.tmp 76) 22 3 rfl 1 8 _ Try.underlying22 info_int rfl (by omega) (by omega) (b + 1) _ _ _ (by rfl) hT.own1 p1 (by rfl) #[.int .i64 xn] rfl xb1 (by simp [Value.oneCell']) hm9 hT.size ?_
      intro g1 cap1 V3 q1 q2 q3
      replace xb2 := Blk.grown xb2 q2 (fun e => by have := HLA.out _ e.symm; omega)
      replace hT := hT.push1 q1 q2 q3
      clear q1 q2 q3 xb1
      replace hS := HKS.out _ hT.fr
      refine hK _ _ hS ?_
      clear hK
      try simp only [Act.put, zq1, zq2, zq3, zq4, zq5, zq6]
      refine tky (i := 19) (v := ?_) hS ?_ ?_
      rotate_left
      ·rintro w' ⟨s0', s1'⟩
       go_simp
       try with_reducible rfl
      try simp only [Act.put, zq1, zq2, zq3, zq4, zq5, zq6]
      refine anyY_g (i := 18) (by kernel_rfl) rfl rfl ?_
      intro K hK
      try simp only [zq1, zq2, zq3]
      refine wp_pushK rfl (.tmp 79) (.tmp 81) 22 3 rfl 1 8 _ Try.underlying22 info_int rfl (by omega) (by omega) (b + 1) _ _ _ (by rfl) hT.own2 p2 (by rfl) #[.int .i64 (nx : Int)] rfl xb2 (by simp [Value.oneCell']) hm9 hT.size ?_
      intro g2 cap2 V4 q1 q2 q3
      replace hT := hT.push2 q1 q2 q3
      clear q1 q2 q3 xb2
      replace hS := HKS.out _ hT.fr
      refine hK _ _ hS ?_
      clear hK
      try simp only [Act.put, zq1, zq2, zq3, zq4, zq5, zq6]
      have hx := hT.fr.blk HX0.out (fun e => e.elim (fun e => by have := (HLA.out _ e).1; omega) (fun e => by have := (HLP.out _ e).1; omega))
      have k0 := Blk.cell hx 0; have k1 := Blk.cell hx 1; have f0 := Blk.frozen hx 0; have f1 := Blk.frozen hx 1
      simp only [List.getElem?_toArray, List.getElem?_cons_zero, List.getElem?_cons_succ] at k0 k1
      have HE := Lib.hid (makeEnd hx hT HBL2.out HBV2.out HG1.out HG2.out)
      clear hx hT hS
      refine anyY_h (i := 20) (by kernel_rfl) (by kernel_rfl) rfl rfl ?_
      intro K hK
      try simp only [zq1, zq2, zq3]
      go_simp
      refine hK _ _ ?_
      clear hK
      try simp only [Act.put, zq1, zq2, zq3, zq4, zq5, zq6]
      refine anyY_h (i := 21) (by kernel_rfl) (by kernel_rfl) rfl rfl ?_
      intro K hK
      try simp only [zq1, zq2, zq3]
      go_simp
      refine hK _ _ ?_
      clear hK
      try simp only [Act.put, zq1, zq2, zq3, zq4, zq5, zq6]
      refine anyY_last (i := 22) (by kernel_rfl) (by kernel_rfl) (by kernel_rfl) rfl rfl ?_
      try simp only [zq1, zq2, zq3]
      go_simp
      try apply_assumption
      clear k0 k1 f0 f1
      go_wp2_with fail
      refine ⟨⟨i + 1, by go_num, by omega, by omega, by first | (rw [HF.out]; done) | (rw [HF.out]; simp), Lib.hid ?_⟩, by simp [intOf]; omega⟩
      rw [HF.out, show i + 1 + 1 = m + 1 by rw [HMI.out]]
      exact HE.out
    ·have tA : decide ((nx : Int) < (z0 : Int)) = false := by simpa using hA
     rw [if_neg hA] at hzo
     by_cases hB : z0 = nx
     ·subst hB
      have HF : Hid (someCL r0n (cs.take (i + 1)) = ⟨s.c ++ [xn], s.l ++ [(z0 : Int)], z0 + 1⟩) := Lib.hid (by have := HFG.out z0 hzo; rwa [if_pos rfl] at this)
      clear hzo HFG
      go_wp2_with fail
      have HAP : Hid (Apart (sl gc m ca) (sl gl m la)) := Lib.hid (.inr (.inr (by simp only [Value.ownBlock]; intro e; injection e with e; exact HG.out e)))
      have HG1 : Hid (b + 1 <= gc) := Lib.hid (HO1.out.lt gc rfl).1
      have HG2 : Hid (b + 1 <= gl) := Lib.hid (HO2.out.lt gl rfl).1
      have HBW : Hid (b + 1 <= wr.heap.size) := Lib.hid HBV.out
      obtain ⟨V0, eV⟩ : ∃ W', wr.drew = W' := ⟨_, rfl⟩
      have HX0 : Hid (Blk V0 b 32 #[sl gc m ca, sl gl m la, v2, v3, v4, v5]) := Lib.hid (by rw [<- eV]; exact Blk.drew HX.out)
      have HT : Hid (TwoRows (b + 1) 3 3 V0 (sl gc m ca) (sl gl m la) V0 (sl gc m ca) m (s.c.map (Value.int .i64)) (sl gl m la) m (s.l.map (Value.int .i64))) := Lib.hid (by rw [<- eV]; exact (TwoRows.start HO1.out HO2.out HAP.out HBW.out).drew0)
      have HLA : Hid (∀ q, (sl gc m ca).ownBlock = some q -> b + 1 <= q /\ q < V0.heap.size) := Lib.hid HT.out.own1.lt
      have HLP : Hid (∀ q, (sl gl m la).ownBlock = some q -> b + 1 <= q /\ q < V0.heap.size) := Lib.hid HT.out.own2.lt
      have HBL2 : Hid (Below b W2 V0) := Lib.hid (by rw [<- eV]; exact HBL.out.drew)
      have HBV2 : Hid (b < V0.heap.size) := Lib.hid (by rw [<- eV]; exact HBV.out)
      have HKS : Hid (∀ W : World, Fr (fun q => (sl gc m ca).ownBlock = some q \/ (sl gl m la).ownBlock = some q) V0 W -> (fun W : World => W.cell? ⟨b, 0, none⟩ = some (sl gc m ca) /\ W.cell? ⟨b, 1, none⟩ = some (sl gl m la)) W) := Lib.hid (fun W hW => by
        have hx := hW.blk HX0.out (fun e => e.elim (fun e => by have := (HLA.out _ e).1; omega) (fun e => by have := (HLP.out _ e).1; omega))
        have k0 := hx.cell 0; have k1 := hx.cell 1
        simpa using And.intro k0 k1)
      have HCX : Hid (∀ W : World, TwoRows (b + 1) 3 3 V0 (sl gc m ca) (sl gl m la) W (sl gc m ca) m (s.c.map (Value.int .i64)) (sl gl m la) m (s.l.map (Value.int .i64)) -> W.cell? ⟨gc, m - 1, none⟩ = some (.int .i64 x)) := Lib.hid (fun W hW => by
        have h := World.ownsRow.cellAt hW.own1 (m - 1) (by have := HM1.out; omega)
        rw [h, List.getElem?_map, <- HXV.out, List.getD_eq_getElem?_getD]
        have hl : m - 1 < s.c.length := by have := HO1.out.len; have := HM1.out; omega
        rw [List.getElem?_eq_getElem hl]; rfl)
      go_wp2_with fail
      refine region_y 20 (fun W : World => W.cell? ⟨b, 0, none⟩ = some (sl gc m ca) /\ W.cell? ⟨b, 1, none⟩ = some (sl gl m la)) (by kernel_rfl) ?_
      rw [eV]
      clear eV
      have hT := HT.out
      have hS := HKS.out _ hT.fr
      refine tky (i := 0) (v := ?_) hS ?_ ?_
      rotate_left
      ·rintro w' ⟨s0', s1'⟩
       go_simp
       try with_reducible rfl
      try simp only [Act.put, zq1, zq2, zq3, zq4, zq5, zq6]
      refine tky (i := 1) (v := ?_) hS ?_ ?_
      rotate_left
      ·rintro w' ⟨s0', s1'⟩
       go_simp
       try with_reducible rfl
      try simp only [Act.put, zq1, zq2, zq3, zq4, zq5, zq6]
      refine tky (i := 2) (v := ?_) hS ?_ ?_
      rotate_left
      ·rintro w' ⟨s0', s1'⟩
       go_simp
       try with_reducible rfl
      try simp only [Act.put, zq1, zq2, zq3, zq4, zq5, zq6]
      refine tky (i := 3) (v := ?_) hS ?_ ?_
      rotate_left
      ·rintro w' ⟨s0', s1'⟩
       go_simp
       try with_reducible rfl
      try simp only [Act.put, zq1, zq2, zq3, zq4, zq5, zq6]
      refine tky (i := 4) (v := ?_) hS ?_ ?_
      rotate_left
      ·rintro w' ⟨s0', s1'⟩
       go_simp
       try with_reducible rfl
      try simp only [Act.put, zq1, zq2, zq3, zq4, zq5, zq6]
      refine tky (i := 5) (v := ?_) hS ?_ ?_
      rotate_left
      ·rintro w' ⟨s0', s1'⟩
       go_simp
       try with_reducible rfl
      try simp only [Act.put, zq1, zq2, zq3, zq4, zq5, zq6]
      refine tky (i := 8) (v := ?_) hS ?_ ?_
      rotate_left
      ·rintro w' ⟨s0', s1'⟩
       go_simp
       try with_reducible rfl
      try simp only [Act.put, zq1, zq2, zq3, zq4, zq5, zq6]
      refine tky (i := 9) (v := ?_) hS ?_ ?_
      rotate_left
      ·rintro w' ⟨s0', s1'⟩
       go_simp
       try with_reducible rfl
      try simp only [Act.put, zq1, zq2, zq3, zq4, zq5, zq6]
      refine tky (i := 10) (v := ?_) hS ?_ ?_
      rotate_left
      ·rintro w' ⟨s0', s1'⟩
       go_simp
       try with_reducible rfl
      try simp only [Act.put, zq1, zq2, zq3, zq4, zq5, zq6]
      refine tky (i := 14) (v := ?_) hS ?_ ?_
      rotate_left
      ·rintro w' ⟨s0', s1'⟩
       go_simp
       try with_reducible rfl
      try simp only [Act.put, zq1, zq2, zq3, zq4, zq5, zq6]
      refine tky (i := 15) (v := ?_) hS ?_ ?_
      rotate_left
      ·rintro w' ⟨s0', s1'⟩
       go_simp
       try with_reducible rfl
      try simp only [Act.put, zq1, zq2, zq3, zq4, zq5, zq6]
      refine tkyg [18, 17] (i := 16) (v := ?_) hS ?_ ?_
      rotate_left
      ·rintro w' ⟨s0', s1'⟩
       go_simp
       try with_reducible rfl
      try simp only [Act.put, zq1, zq2, zq3, zq4, zq5, zq6]
      refine anyY_2 (i := 6) (j := 17) (by kernel_rfl) rfl rfl rfl rfl ?_ ?_
      ·intro K hK
       try simp only [zq1, zq2, zq3]
       have hcx : V0.cell? ⟨gc, (m - 1), none⟩ = some (.int .i64 x) := HCX.out _ hT
       first | rw [HJ.out] at hcx | skip
       go_simp
       refine hK _ _ hS ?_
       clear hK
       try simp only [Act.put, zq1, zq2, zq3, zq4, zq5, zq6]
       clear hcx
       refine tky0 (i := 7) (v := ?_) hS ?_ ?_
       rotate_left
       ·rintro w' -
        go_simp
        try with_reducible rfl
       try simp only [Act.put, zq1, zq2, zq3, zq4, zq5, zq6]
       refine tky0 (i := 11) (v := ?_) hS ?_ ?_
       rotate_left
       ·rintro w' -
        go_simp
        try with_reducible rfl
       try simp only [Act.put, zq1, zq2, zq3, zq4, zq5, zq6]
       refine anyY_2 (i := 12) (j := 17) (by kernel_rfl) rfl rfl rfl rfl ?_ ?_
       ·intro K hK
        try simp only [zq1, zq2, zq3]
        go_simp
        rw [HXN.out]
        obtain ⟨V1, eV⟩ : ∃ W', V0.alloc (.cells #[.int .i64 xn] 3) = W' := ⟨_, rfl⟩
        have hb : Below V0.heap.size V0 V1 := by rw [<- eV]; exact (Below.refl _ _).alloc (Nat.le_refl _) _
        have xb1 : Blk V1 V0.heap.size 3 #[.int .i64 xn] := by rw [<- eV]; exact Blk.new _ _ _
        have hge := hT.fr.size
        replace hT := hT.bel hb
        rw [eV]
        clear eV hb
        obtain ⟨p1, hp⟩ : ∃ p, V0.heap.size = p := ⟨_, rfl⟩
        have hge1 : V0.heap.size <= p1 := Nat.le_trans hge (Nat.le_of_eq hp)
        rw [hp] at xb1 ⊢
        clear hp hge
        replace hS := HKS.out _ hT.fr
        refine hK _ _ hS ?_
        clear hK
        try simp only [Act.put, zq1, zq2, zq3, zq4, zq5, zq6]
        refine anyY_2 (i := 13) (j := 17) (by kernel_rfl) rfl rfl rfl rfl ?_ ?_
        ·intro K hK
         try simp only [zq1, zq2, zq3]
         refine wp_pushK rfl (.tmp 65) (.tmp 76) 22 3 rfl 1 8 _ Try.underlying22 info_int rfl (by omega) (by omega) (b + 1) _ _ _ (by rfl) hT.own1 p1 (by rfl) #[.int .i64 xn] rfl xb1 (by simp [Value.oneCell']) hm9 hT.size ?_
         intro g1 cap1 V2 q1 q2 q3
         replace hT := hT.push1 q1 q2 q3
         clear q1 q2 q3 xb1
         replace hS := HKS.out _ hT.fr
         refine hK _ _ hS ?_
         clear hK
         try simp only [Act.put, zq1, zq2, zq3, zq4, zq5, zq6]
         refine tky (i := 19) (v := ?_) hS ?_ ?_
         rotate_left
         ·rintro w' ⟨s0', s1'⟩
          go_simp
          try with_reducible rfl
         try simp only [Act.put, zq1, zq2, zq3, zq4, zq5, zq6]
         refine anyY_g (i := 17) (by kernel_rfl) rfl rfl ?_
         intro K hK
         try simp only [zq1, zq2, zq3]
         go_simp
         obtain ⟨V3, eV⟩ : ∃ W', V2.alloc (.cells #[.int .i64 (z0 : Int)] 3) = W' := ⟨_, rfl⟩
         have hb : Below V2.heap.size V2 V3 := by rw [<- eV]; exact (Below.refl _ _).alloc (Nat.le_refl _) _
         have xb2 : Blk V3 V2.heap.size 3 #[.int .i64 (z0 : Int)] := by rw [<- eV]; exact Blk.new _ _ _
         have hge := hT.fr.size
         replace hT := hT.bel hb
         rw [eV]
         clear eV hb
         obtain ⟨p2, hp⟩ : ∃ p, V2.heap.size = p := ⟨_, rfl⟩
         have hge2 : V0.heap.size <= p2 := Nat.le_trans hge (Nat.le_of_eq hp)
         rw [hp] at xb2 ⊢
         clear hp hge
         replace hS := HKS.out _ hT.fr
         refine hK _ _ hS ?_
         clear hK
         try simp only [Act.put, zq1, zq2, zq3, zq4, zq5, zq6]
         refine anyY_g (i := 18) (by kernel_rfl) rfl rfl ?_
         intro K hK
         try simp only [zq1, zq2, zq3]
         refine wp_pushK rfl (.tmp 79) (.tmp 81) 22 3 rfl 1 8 _ Try.underlying22 info_int rfl (by omega) (by omega) (b + 1) _ _ _ (by rfl) hT.own2 p2 (by rfl) #[.int .i64 (z0 : Int)] rfl xb2 (by simp [Value.oneCell']) hm9 hT.size ?_
         intro g2 cap2 V4 q1 q2 q3
         replace hT := hT.push2 q1 q2 q3
         clear q1 q2 q3 xb2
         replace hS := HKS.out _ hT.fr
         refine hK _ _ hS ?_
         clear hK
         try simp only [Act.put, zq1, zq2, zq3, zq4, zq5, zq6]
         have hx := hT.fr.blk HX0.out (fun e => e.elim (fun e => by have := (HLA.out _ e).1; omega) (fun e => by have := (HLP.out _ e).1; omega))
         have k0 := Blk.cell hx 0; have k1 := Blk.cell hx 1; have f0 := Blk.frozen hx 0; have f1 := Blk.frozen hx 1
         simp only [List.getElem?_toArray, List.getElem?_cons_zero, List.getElem?_cons_succ] at k0 k1
         have HE := Lib.hid (makeEnd hx hT HBL2.out HBV2.out HG1.out HG2.out)
         clear hx hT hS
         refine anyY_h (i := 20) (by kernel_rfl) (by kernel_rfl) rfl rfl ?_
         intro K hK
         try simp only [zq1, zq2, zq3]
         go_simp
         refine hK _ _ ?_
         clear hK
         try simp only [Act.put, zq1, zq2, zq3, zq4, zq5, zq6]
         refine anyY_h (i := 21) (by kernel_rfl) (by kernel_rfl) rfl rfl ?_
         intro K hK
         try simp only [zq1, zq2, zq3]
         go_simp
         refine hK _ _ ?_
         clear hK
         try simp only [Act.put, zq1, zq2, zq3, zq4, zq5, zq6]
         refine anyY_last (i := 22) (by kernel_rfl) (by kernel_rfl) (by kernel_rfl) rfl rfl ?_
         try simp only [zq1, zq2, zq3]
         go_simp
         try apply_assumption
         clear k0 k1 f0 f1
         go_wp2_with fail
         refine ⟨⟨i + 1, by go_num, by omega, by omega, by first | (rw [HF.out]; done) | (rw [HF.out]; simp), Lib.hid ?_⟩, by simp [intOf]; omega⟩
         rw [HF.out, show i + 1 + 1 = m + 1 by rw [HMI.out]]
         exact HE.out
        ·intro K hK
         try simp only [zq1, zq2, zq3]
         go_simp
         obtain ⟨V2, eV⟩ : ∃ W', V1.alloc (.cells #[.int .i64 (z0 : Int)] 3) = W' := ⟨_, rfl⟩
         have hb : Below V1.heap.size V1 V2 := by rw [<- eV]; exact (Below.refl _ _).alloc (Nat.le_refl _) _
         replace xb1 := Blk.below xb1 hb xb1.lt
         have xb2 : Blk V2 V1.heap.size 3 #[.int .i64 (z0 : Int)] := by rw [<- eV]; exact Blk.new _ _ _
         have hge := hT.fr.size
         replace hT := hT.bel hb
         rw [eV]
         clear eV hb
         obtain ⟨p2, hp⟩ : ∃ p, V1.heap.size = p := ⟨_, rfl⟩
         have hge2 : V0.heap.size <= p2 := Nat.le_trans hge (Nat.le_of_eq hp)
         rw [hp] at xb2 ⊢
         clear hp hge
         replace hS := HKS.out _ hT.fr
         refine hK _ _ hS ?_
         clear hK
         try simp only [Act.put, zq1, zq2, zq3, zq4, zq5, zq6]
         refine anyY_g (i := 13) (by kernel_rfl) rfl rfl ?_
         intro K hK
         try simp only [zq1, zq2, zq3]
         refine wp_pushK rfl (.tmp 65) (.tmp 76) 22 3 rfl 1 8 _ Try.underlying22 info_int rfl (by omega) (by omega) (b + 1) _ _ _ (by rfl) hT.own1 p1 (by rfl) #[.int .i64 xn] rfl xb1 (by simp [Value.oneCell']) hm9 hT.size ?_
         intro g1 cap1 V3 q1 q2 q3
         replace xb2 := Blk.grown xb2 q2 (fun e => by have := HLA.out _ e.symm; omega)
         replace hT := hT.push1 q1 q2 q3
         clear q1 q2 q3 xb1
         replace hS := HKS.out _ hT.fr
         refine hK _ _ hS ?_
         clear hK
         try simp only [Act.put, zq1, zq2, zq3, zq4, zq5, zq6]
         refine tky (i := 19) (v := ?_) hS ?_ ?_
         rotate_left
         ·rintro w' ⟨s0', s1'⟩
          go_simp
          try with_reducible rfl
         try simp only [Act.put, zq1, zq2, zq3, zq4, zq5, zq6]
         refine anyY_g (i := 18) (by kernel_rfl) rfl rfl ?_
         intro K hK
         try simp only [zq1, zq2, zq3]
         refine wp_pushK rfl (.tmp 79) (.tmp 81) 22 3 rfl 1 8 _ Try.underlying22 info_int rfl (by omega) (by omega) (b + 1) _ _ _ (by rfl) hT.own2 p2 (by rfl) #[.int .i64 (z0 : Int)] rfl xb2 (by simp [Value.oneCell']) hm9 hT.size ?_
         intro g2 cap2 V4 q1 q2 q3
         replace hT := hT.push2 q1 q2 q3
         clear q1 q2 q3 xb2
         replace hS := HKS.out _ hT.fr
         refine hK _ _ hS ?_
         clear hK
         try simp only [Act.put, zq1, zq2, zq3, zq4, zq5, zq6]
         have hx := hT.fr.blk HX0.out (fun e => e.elim (fun e => by have := (HLA.out _ e).1; omega) (fun e => by have := (HLP.out _ e).1; omega))
         have k0 := Blk.cell hx 0; have k1 := Blk.cell hx 1; have f0 := Blk.frozen hx 0; have f1 := Blk.frozen hx 1
         simp only [List.getElem?_toArray, List.getElem?_cons_zero, List.getElem?_cons_succ] at k0 k1
         have HE := Lib.hid (makeEnd hx hT HBL2.out HBV2.out HG1.out HG2.out)
         clear hx hT hS
         refine anyY_h (i := 20) (by kernel_rfl) (by kernel_rfl) rfl rfl ?_
         intro K hK
         try simp only [zq1, zq2, zq3]
         go_simp
         refine hK _ _ ?_
         clear hK
         try simp only [Act.put, zq1, zq2, zq3, zq4, zq5, zq6]
         refine anyY_h (i := 21) (by kernel_rfl) (by kernel_rfl) rfl rfl ?_
         intro K hK
         try simp only [zq1, zq2, zq3]
         go_simp
         refine hK _ _ ?_
         clear hK
         try simp only [Act.put, zq1, zq2, zq3, zq4, zq5, zq6]
         refine anyY_last (i := 22) (by kernel_rfl) (by kernel_rfl) (by kernel_rfl) rfl rfl ?_
         try simp only [zq1, zq2, zq3]
         go_simp
         try apply_assumption
         clear k0 k1 f0 f1
         go_wp2_with fail
         refine ⟨⟨i + 1, by go_num, by omega, by omega, by first | (rw [HF.out]; done) | (rw [HF.out]; simp), Lib.hid ?_⟩, by simp [intOf]; omega⟩
         rw [HF.out, show i + 1 + 1 = m + 1 by rw [HMI.out]]
         exact HE.out
       ·intro K hK
        try simp only [zq1, zq2, zq3]
        go_simp
        obtain ⟨V1, eV⟩ : ∃ W', V0.alloc (.cells #[.int .i64 (z0 : Int)] 3) = W' := ⟨_, rfl⟩
        have hb : Below V0.heap.size V0 V1 := by rw [<- eV]; exact (Below.refl _ _).alloc (Nat.le_refl _) _
        have xb2 : Blk V1 V0.heap.size 3 #[.int .i64 (z0 : Int)] := by rw [<- eV]; exact Blk.new _ _ _
        have hge := hT.fr.size
        replace hT := hT.bel hb
        rw [eV]
        clear eV hb
        obtain ⟨p2, hp⟩ : ∃ p, V0.heap.size = p := ⟨_, rfl⟩
        have hge2 : V0.heap.size <= p2 := Nat.le_trans hge (Nat.le_of_eq hp)
        rw [hp] at xb2 ⊢
        clear hp hge
        replace hS := HKS.out _ hT.fr
        refine hK _ _ hS ?_
        clear hK
        try simp only [Act.put, zq1, zq2, zq3, zq4, zq5, zq6]
        refine anyY_g (i := 12) (by kernel_rfl) rfl rfl ?_
        intro K hK
        try simp only [zq1, zq2, zq3]
        go_simp
        rw [HXN.out]
        obtain ⟨V2, eV⟩ : ∃ W', V1.alloc (.cells #[.int .i64 xn] 3) = W' := ⟨_, rfl⟩
        have hb : Below V1.heap.size V1 V2 := by rw [<- eV]; exact (Below.refl _ _).alloc (Nat.le_refl _) _
        replace xb2 := Blk.below xb2 hb xb2.lt
        have xb1 : Blk V2 V1.heap.size 3 #[.int .i64 xn] := by rw [<- eV]; exact Blk.new _ _ _
        have hge := hT.fr.size
        replace hT := hT.bel hb
        rw [eV]
        clear eV hb
        obtain ⟨p1, hp⟩ : ∃ p, V1.heap.size = p := ⟨_, rfl⟩
        have hge1 : V0.heap.size <= p1 := Nat.le_trans hge (Nat.le_of_eq hp)
        rw [hp] at xb1 ⊢
        clear hp hge
        replace hS := HKS.out _ hT.fr
        refine hK _ _ hS ?_
        clear hK
        try simp only [Act.put, zq1, zq2, zq3, zq4, zq5, zq6]
        refine anyY_g (i := 13) (by kernel_rfl) rfl rfl ?_
        intro K hK
        try simp only [zq1, zq2, zq3]
        refine wp_pushK rfl (.tmp 65) (.tmp 76) 22 3 rfl 1 8 _ Try.underlying22 info_int rfl (by omega) (by omega) (b + 1) _ _ _ (by rfl) hT.own1 p1 (by rfl) #[.int .i64 xn] rfl xb1 (by simp [Value.oneCell']) hm9 hT.size ?_
        intro g1 cap1 V3 q1 q2 q3
        replace xb2 := Blk.grown xb2 q2 (fun e => by have := HLA.out _ e.symm; omega)
        replace hT := hT.push1 q1 q2 q3
        clear q1 q2 q3 xb1
        replace hS := HKS.out _ hT.fr
        refine hK _ _ hS ?_
        clear hK
        try simp only [Act.put, zq1, zq2, zq3, zq4, zq5, zq6]
        refine tky (i := 19) (v := ?_) hS ?_ ?_
        rotate_left
        ·rintro w' ⟨s0', s1'⟩
         go_simp
         try with_reducible rfl
        try simp only [Act.put, zq1, zq2, zq3, zq4, zq5, zq6]
        refine anyY_g (i := 18) (by kernel_rfl) rfl rfl ?_
        intro K hK
        try simp only [zq1, zq2, zq3]
        refine wp_pushK rfl (.tmp 79) (.tmp 81) 22 3 rfl 1 8 _ Try.underlying22 info_int rfl (by omega) (by omega) (b + 1) _ _ _ (by rfl) hT.own2 p2 (by rfl) #[.int .i64 (z0 : Int)] rfl xb2 (by simp [Value.oneCell']) hm9 hT.size ?_
        intro g2 cap2 V4 q1 q2 q3
        replace hT := hT.push2 q1 q2 q3
        clear q1 q2 q3 xb2
        replace hS := HKS.out _ hT.fr
        refine hK _ _ hS ?_
        clear hK
        try simp only [Act.put, zq1, zq2, zq3, zq4, zq5, zq6]
        have hx := hT.fr.blk HX0.out (fun e => e.elim (fun e => by have := (HLA.out _ e).1; omega) (fun e => by have := (HLP.out _ e).1; omega))
        have k0 := Blk.cell hx 0; have k1 := Blk.cell hx 1; have f0 := Blk.frozen hx 0; have f1 := Blk.frozen hx 1
        simp only [List.getElem?_toArray, List.getElem?_cons_zero, List.getElem?_cons_succ] at k0 k1
        have HE := Lib.hid (makeEnd hx hT HBL2.out HBV2.out HG1.out HG2.out)
        clear hx hT hS
        refine anyY_h (i := 20) (by kernel_rfl) (by kernel_rfl) rfl rfl ?_
        intro K hK
        try simp only [zq1, zq2, zq3]
        go_simp
        refine hK _ _ ?_
        clear hK
        try simp only [Act.put, zq1, zq2, zq3, zq4, zq5, zq6]
        refine anyY_h (i := 21) (by kernel_rfl) (by kernel_rfl) rfl rfl ?_
        intro K hK
        try simp only [zq1, zq2, zq3]
        go_simp
        refine hK _ _ ?_
        clear hK
        try simp only [Act.put, zq1, zq2, zq3, zq4, zq5, zq6]
        refine anyY_last (i := 22) (by kernel_rfl) (by kernel_rfl) (by kernel_rfl) rfl rfl ?_
        try simp only [zq1, zq2, zq3]
        go_simp
        try apply_assumption
        clear k0 k1 f0 f1
        go_wp2_with fail
        refine ⟨⟨i + 1, by go_num, by omega, by omega, by first | (rw [HF.out]; done) | (rw [HF.out]; simp), Lib.hid ?_⟩, by simp [intOf]; omega⟩
        rw [HF.out, show i + 1 + 1 = m + 1 by rw [HMI.out]]
        exact HE.out
      ·intro K hK
       try simp only [zq1, zq2, zq3]
       go_simp
       obtain ⟨V1, eV⟩ : ∃ W', V0.alloc (.cells #[.int .i64 (z0 : Int)] 3) = W' := ⟨_, rfl⟩
       have hb : Below V0.heap.size V0 V1 := by rw [<- eV]; exact (Below.refl _ _).alloc (Nat.le_refl _) _
       have xb2 : Blk V1 V0.heap.size 3 #[.int .i64 (z0 : Int)] := by rw [<- eV]; exact Blk.new _ _ _
       have hge := hT.fr.size
       replace hT := hT.bel hb
       rw [eV]
       clear eV hb
       obtain ⟨p2, hp⟩ : ∃ p, V0.heap.size = p := ⟨_, rfl⟩
       have hge2 : V0.heap.size <= p2 := Nat.le_trans hge (Nat.le_of_eq hp)
       rw [hp] at xb2 ⊢
       clear hp hge
       replace hS := HKS.out _ hT.fr
       refine hK _ _ hS ?_
       clear hK
       try simp only [Act.put, zq1, zq2, zq3, zq4, zq5, zq6]
       refine anyY_g (i := 6) (by kernel_rfl) rfl rfl ?_
       intro K hK
       try simp only [zq1, zq2, zq3]
       have hcx : V1.cell? ⟨gc, (m - 1), none⟩ = some (.int .i64 x) := HCX.out _ hT
       first | rw [HJ.out] at hcx | skip
       go_simp
       refine hK _ _ hS ?_
       clear hK
       try simp only [Act.put, zq1, zq2, zq3, zq4, zq5, zq6]
       clear hcx
       refine tky0 (i := 7) (v := ?_) hS ?_ ?_
       rotate_left
       ·rintro w' -
        go_simp
        try with_reducible rfl
       try simp only [Act.put, zq1, zq2, zq3, zq4, zq5, zq6]
       refine tky0 (i := 11) (v := ?_) hS ?_ ?_
       rotate_left
       ·rintro w' -
        go_simp
        try with_reducible rfl
       try simp only [Act.put, zq1, zq2, zq3, zq4, zq5, zq6]
       refine anyY_g (i := 12) (by kernel_rfl) rfl rfl ?_
       intro K hK
       try simp only [zq1, zq2, zq3]
       go_simp
       rw [HXN.out]
       obtain ⟨V2, eV⟩ : ∃ W', V1.alloc (.cells #[.int .i64 xn] 3) = W' := ⟨_, rfl⟩
       have hb : Below V1.heap.size V1 V2 := by rw [<- eV]; exact (Below.refl _ _).alloc (Nat.le_refl _) _
       replace xb2 := Blk.below xb2 hb xb2.lt
       have xb1 : Blk V2 V1.heap.size 3 #[.int .i64 xn] := by rw [<- eV]; exact Blk.new _ _ _
       have hge := hT.fr.size
       replace hT := hT.bel hb
       rw [eV]
       clear eV hb
       obtain ⟨p1, hp⟩ : ∃ p, V1.heap.size = p := ⟨_, rfl⟩
       have hge1 : V0.heap.size <= p1 := Nat.le_trans hge (Nat.le_of_eq hp)
       rw [hp] at xb1 ⊢
       clear hp hge
       replace hS := HKS.out _ hT.fr
       refine hK _ _ hS ?_
       clear hK
       try simp only [Act.put, zq1, zq2, zq3, zq4, zq5, zq6]
       refine anyY_g (i := 13) (by kernel_rfl) rfl rfl ?_
       intro K hK
       try simp only [zq1, zq2, zq3]
       refine wp_pushK rfl (.tmp 65) (.tmp 76) 22 3 rfl 1 8 _ Try.underlying22 info_int rfl (by omega) (by omega) (b + 1) _ _ _ (by rfl) hT.own1 p1 (by rfl) #[.int .i64 xn] rfl xb1 (by simp [Value.oneCell']) hm9 hT.size ?_
       intro g1 cap1 V3 q1 q2 q3
       replace xb2 := Blk.grown xb2 q2 (fun e => by have := HLA.out _ e.symm; omega)
       replace hT := hT.push1 q1 q2 q3
       clear q1 q2 q3 xb1
       replace hS := HKS.out _ hT.fr
       refine hK _ _ hS ?_
       clear hK
       try simp only [Act.put, zq1, zq2, zq3, zq4, zq5, zq6]
       refine tky (i := 19) (v := ?_) hS ?_ ?_
       rotate_left
       ·rintro w' ⟨s0', s1'⟩
        go_simp
        try with_reducible rfl
       try simp only [Act.put, zq1, zq2, zq3, zq4, zq5, zq6]
       refine anyY_g (i := 18) (by kernel_rfl) rfl rfl ?_
       intro K hK
       try simp only [zq1, zq2, zq3]
       refine wp_pushK rfl (.tmp 79) (.tmp 81) 22 3 rfl 1 8 _ Try.underlying22 info_int rfl (by omega) (by omega) (b + 1) _ _ _ (by rfl) hT.own2 p2 (by rfl) #[.int .i64 (z0 : Int)] rfl xb2 (by simp [Value.oneCell']) hm9 hT.size ?_
       intro g2 cap2 V4 q1 q2 q3
       replace hT := hT.push2 q1 q2 q3
       clear q1 q2 q3 xb2
       replace hS := HKS.out _ hT.fr
       refine hK _ _ hS ?_
       clear hK
       try simp only [Act.put, zq1, zq2, zq3, zq4, zq5, zq6]
       have hx := hT.fr.blk HX0.out (fun e => e.elim (fun e => by have := (HLA.out _ e).1; omega) (fun e => by have := (HLP.out _ e).1; omega))
       have k0 := Blk.cell hx 0; have k1 := Blk.cell hx 1; have f0 := Blk.frozen hx 0; have f1 := Blk.frozen hx 1
       simp only [List.getElem?_toArray, List.getElem?_cons_zero, List.getElem?_cons_succ] at k0 k1
       have HE := Lib.hid (makeEnd hx hT HBL2.out HBV2.out HG1.out HG2.out)
       clear hx hT hS
       refine anyY_h (i := 20) (by kernel_rfl) (by kernel_rfl) rfl rfl ?_
       intro K hK
       try simp only [zq1, zq2, zq3]
       go_simp
       refine hK _ _ ?_
       clear hK
       try simp only [Act.put, zq1, zq2, zq3, zq4, zq5, zq6]
       refine anyY_h (i := 21) (by kernel_rfl) (by kernel_rfl) rfl rfl ?_
       intro K hK
       try simp only [zq1, zq2, zq3]
       go_simp
       refine hK _ _ ?_
       clear hK
       try simp only [Act.put, zq1, zq2, zq3, zq4, zq5, zq6]
       refine anyY_last (i := 22) (by kernel_rfl) (by kernel_rfl) (by kernel_rfl) rfl rfl ?_
       try simp only [zq1, zq2, zq3]
       go_simp
       try apply_assumption
       clear k0 k1 f0 f1
       go_wp2_with fail
       refine ⟨⟨i + 1, by go_num, by omega, by omega, by first | (rw [HF.out]; done) | (rw [HF.out]; simp), Lib.hid ?_⟩, by simp [intOf]; omega⟩
       rw [HF.out, show i + 1 + 1 = m + 1 by rw [HMI.out]]
       exact HE.out
     ·have HF : Hid (someCL r0n (cs.take (i + 1)) = ⟨s.c ++ [xn], s.l ++ [(z0 : Int)], nx⟩) := Lib.hid (by have := HFG.out z0 hzo; rwa [if_neg hB] at this)
      have hB2 : ¬ (z0 : Int) = (nx : Int) := by omega
      have tB : ((z0 : Int) == (nx : Int)) = false := by simpa using hB2
      clear hzo HFG
      go_wp2_with fail
      have HAP : Hid (Apart (sl gc m ca) (sl gl m la)) := Lib.hid (.inr (.inr (by simp only [Value.ownBlock]; intro e; injection e with e; exact HG.out e)))
      have HG1 : Hid (b + 1 <= gc) := Lib.hid (HO1.out.lt gc rfl).1
      have HG2 : Hid (b + 1 <= gl) := Lib.hid (HO2.out.lt gl rfl).1
      have HBW : Hid (b + 1 <= wr.heap.size) := Lib.hid HBV.out
      obtain ⟨V0, eV⟩ : ∃ W', wr.drew = W' := ⟨_, rfl⟩
      have HX0 : Hid (Blk V0 b 32 #[sl gc m ca, sl gl m la, v2, v3, v4, v5]) := Lib.hid (by rw [<- eV]; exact Blk.drew HX.out)
      have HT : Hid (TwoRows (b + 1) 3 3 V0 (sl gc m ca) (sl gl m la) V0 (sl gc m ca) m (s.c.map (Value.int .i64)) (sl gl m la) m (s.l.map (Value.int .i64))) := Lib.hid (by rw [<- eV]; exact (TwoRows.start HO1.out HO2.out HAP.out HBW.out).drew0)
      have HLA : Hid (∀ q, (sl gc m ca).ownBlock = some q -> b + 1 <= q /\ q < V0.heap.size) := Lib.hid HT.out.own1.lt
      have HLP : Hid (∀ q, (sl gl m la).ownBlock = some q -> b + 1 <= q /\ q < V0.heap.size) := Lib.hid HT.out.own2.lt
      have HBL2 : Hid (Below b W2 V0) := Lib.hid (by rw [<- eV]; exact HBL.out.drew)
      have HBV2 : Hid (b < V0.heap.size) := Lib.hid (by rw [<- eV]; exact HBV.out)
      have HKS : Hid (∀ W : World, Fr (fun q => (sl gc m ca).ownBlock = some q \/ (sl gl m la).ownBlock = some q) V0 W -> (fun W : World => W.cell? ⟨b, 0, none⟩ = some (sl gc m ca) /\ W.cell? ⟨b, 1, none⟩ = some (sl gl m la)) W) := Lib.hid (fun W hW => by
        have hx := hW.blk HX0.out (fun e => e.elim (fun e => by have := (HLA.out _ e).1; omega) (fun e => by have := (HLP.out _ e).1; omega))
        have k0 := hx.cell 0; have k1 := hx.cell 1
        simpa using And.intro k0 k1)
      have HCX : Hid (∀ W : World, TwoRows (b + 1) 3 3 V0 (sl gc m ca) (sl gl m la) W (sl gc m ca) m (s.c.map (Value.int .i64)) (sl gl m la) m (s.l.map (Value.int .i64)) -> W.cell? ⟨gc, m - 1, none⟩ = some (.int .i64 x)) := Lib.hid (fun W hW => by
        have h := World.ownsRow.cellAt hW.own1 (m - 1) (by have := HM1.out; omega)
        rw [h, List.getElem?_map, <- HXV.out, List.getD_eq_getElem?_getD]
        have hl : m - 1 < s.c.length := by have := HO1.out.len; have := HM1.out; omega
        rw [List.getElem?_eq_getElem hl]; rfl)
      go_wp2_with fail
      refine region_y 20 (fun W : World => W.cell? ⟨b, 0, none⟩ = some (sl gc m ca) /\ W.cell? ⟨b, 1, none⟩ = some (sl gl m la)) (by kernel_rfl) ?_
      rw [eV]
      clear eV
      have hT := HT.out
      have hS := HKS.out _ hT.fr
      refine tky (i := 0) (v := ?_) hS ?_ ?_
      rotate_left
      ·rintro w' ⟨s0', s1'⟩
       go_simp
       try with_reducible rfl
      try simp only [Act.put, zq1, zq2, zq3, zq4, zq5, zq6]
      refine tky (i := 1) (v := ?_) hS ?_ ?_
      rotate_left
      ·rintro w' ⟨s0', s1'⟩
       go_simp
       try with_reducible rfl
      try simp only [Act.put, zq1, zq2, zq3, zq4, zq5, zq6]
      refine tky (i := 2) (v := ?_) hS ?_ ?_
      rotate_left
      ·rintro w' ⟨s0', s1'⟩
       go_simp
       try with_reducible rfl
      try simp only [Act.put, zq1, zq2, zq3, zq4, zq5, zq6]
      refine tky (i := 3) (v := ?_) hS ?_ ?_
      rotate_left
      ·rintro w' ⟨s0', s1'⟩
       go_simp
       try with_reducible rfl
      try simp only [Act.put, zq1, zq2, zq3, zq4, zq5, zq6]
      refine tky (i := 4) (v := ?_) hS ?_ ?_
      rotate_left
      ·rintro w' ⟨s0', s1'⟩
       go_simp
       try with_reducible rfl
      try simp only [Act.put, zq1, zq2, zq3, zq4, zq5, zq6]
      refine tky (i := 5) (v := ?_) hS ?_ ?_
      rotate_left
      ·rintro w' ⟨s0', s1'⟩
       go_simp
       try with_reducible rfl
      try simp only [Act.put, zq1, zq2, zq3, zq4, zq5, zq6]
      refine tky (i := 8) (v := ?_) hS ?_ ?_
      rotate_left
      ·rintro w' ⟨s0', s1'⟩
       go_simp
       try with_reducible rfl
      try simp only [Act.put, zq1, zq2, zq3, zq4, zq5, zq6]
      refine tky (i := 9) (v := ?_) hS ?_ ?_
      rotate_left
      ·rintro w' ⟨s0', s1'⟩
       go_simp
       try with_reducible rfl
      try simp only [Act.put, zq1, zq2, zq3, zq4, zq5, zq6]
      refine tky (i := 10) (v := ?_) hS ?_ ?_
      rotate_left
      ·rintro w' ⟨s0', s1'⟩
       go_simp
       try with_reducible rfl
      try simp only [Act.put, zq1, zq2, zq3, zq4, zq5, zq6]
      refine tky (i := 14) (v := ?_) hS ?_ ?_
      rotate_left
      ·rintro w' ⟨s0', s1'⟩
       go_simp
       try with_reducible rfl
      try simp only [Act.put, zq1, zq2, zq3, zq4, zq5, zq6]
      refine tky (i := 15) (v := ?_) hS ?_ ?_
      rotate_left
      ·rintro w' ⟨s0', s1'⟩
       go_simp
       try with_reducible rfl
      try simp only [Act.put, zq1, zq2, zq3, zq4, zq5, zq6]
      refine tkyg [18, 17] (i := 16) (v := ?_) hS ?_ ?_
      rotate_left
      ·rintro w' ⟨s0', s1'⟩
       go_simp
       try with_reducible rfl
      try simp only [Act.put, zq1, zq2, zq3, zq4, zq5, zq6]
      refine anyY_2 (i := 6) (j := 17) (by kernel_rfl) rfl rfl rfl rfl ?_ ?_
      ·intro K hK
       try simp only [zq1, zq2, zq3]
       have hcx : V0.cell? ⟨gc, (m - 1), none⟩ = some (.int .i64 x) := HCX.out _ hT
       first | rw [HJ.out] at hcx | skip
       go_simp
       refine hK _ _ hS ?_
       clear hK
       try simp only [Act.put, zq1, zq2, zq3, zq4, zq5, zq6]
       clear hcx
       refine tky0 (i := 7) (v := ?_) hS ?_ ?_
       rotate_left
       ·rintro w' -
        go_simp
        try with_reducible rfl
       try simp only [Act.put, zq1, zq2, zq3, zq4, zq5, zq6]
       refine tky0 (i := 11) (v := ?_) hS ?_ ?_
       rotate_left
       ·rintro w' -
        go_simp
        try with_reducible rfl
       try simp only [Act.put, zq1, zq2, zq3, zq4, zq5, zq6]
       refine anyY_2 (i := 12) (j := 17) (by kernel_rfl) rfl rfl rfl rfl ?_ ?_
       ·intro K hK
        try simp only [zq1, zq2, zq3]
        go_simp
        rw [HXN.out]
        obtain ⟨V1, eV⟩ : ∃ W', V0.alloc (.cells #[.int .i64 xn] 3) = W' := ⟨_, rfl⟩
        have hb : Below V0.heap.size V0 V1 := by rw [<- eV]; exact (Below.refl _ _).alloc (Nat.le_refl _) _
        have xb1 : Blk V1 V0.heap.size 3 #[.int .i64 xn] := by rw [<- eV]; exact Blk.new _ _ _
        have hge := hT.fr.size
        replace hT := hT.bel hb
        rw [eV]
        clear eV hb
        obtain ⟨p1, hp⟩ : ∃ p, V0.heap.size = p := ⟨_, rfl⟩
        have hge1 : V0.heap.size <= p1 := Nat.le_trans hge (Nat.le_of_eq hp)
        rw [hp] at xb1 ⊢
        clear hp hge
        replace hS := HKS.out _ hT.fr
        refine hK _ _ hS ?_
        clear hK
        try simp only [Act.put, zq1, zq2, zq3, zq4, zq5, zq6]
        refine anyY_2 (i := 13) (j := 17) (by kernel_rfl) rfl rfl rfl rfl ?_ ?_
        ·intro K hK
         try simp only [zq1, zq2, zq3]
         refine wp_pushK rfl (.tmp 65) (.tmp 76) 22 3 rfl 1 8 _ Try.underlying22 info_int rfl (by omega) (by omega) (b + 1) _ _ _ (by rfl) hT.own1 p1 (by rfl) #[.int .i64 xn] rfl xb1 (by simp [Value.oneCell']) hm9 hT.size ?_
         intro g1 cap1 V2 q1 q2 q3
         replace hT := hT.push1 q1 q2 q3
         clear q1 q2 q3 xb1
         replace hS := HKS.out _ hT.fr
         refine hK _ _ hS ?_
         clear hK
         try simp only [Act.put, zq1, zq2, zq3, zq4, zq5, zq6]
         refine tky (i := 19) (v := ?_) hS ?_ ?_
         rotate_left
         ·rintro w' ⟨s0', s1'⟩
          go_simp
          try with_reducible rfl
         try simp only [Act.put, zq1, zq2, zq3, zq4, zq5, zq6]
         refine anyY_g (i := 17) (by kernel_rfl) rfl rfl ?_
         intro K hK
         try simp only [zq1, zq2, zq3]
         go_simp
         obtain ⟨V3, eV⟩ : ∃ W', V2.alloc (.cells #[.int .i64 (z0 : Int)] 3) = W' := ⟨_, rfl⟩
         have hb : Below V2.heap.size V2 V3 := by rw [<- eV]; exact (Below.refl _ _).alloc (Nat.le_refl _) _
         have xb2 : Blk V3 V2.heap.size 3 #[.int .i64 (z0 : Int)] := by rw [<- eV]; exact Blk.new _ _ _
         have hge := hT.fr.size
         replace hT := hT.bel hb
         rw [eV]
         clear eV hb
         obtain ⟨p2, hp⟩ : ∃ p, V2.heap.size = p := ⟨_, rfl⟩
         have hge2 : V0.heap.size <= p2 := Nat.le_trans hge (Nat.le_of_eq hp)
         rw [hp] at xb2 ⊢
         clear hp hge
         replace hS := HKS.out _ hT.fr
         refine hK _ _ hS ?_
         clear hK
         try simp only [Act.put, zq1, zq2, zq3, zq4, zq5, zq6]
         refine anyY_g (i := 18) (by kernel_rfl) rfl rfl ?_
         intro K hK
         try simp only [zq1, zq2, zq3]
         refine wp_pushK rfl (.tmp 79) (.tmp 81) 22 3 rfl 1 8 _ Try.underlying22 info_int rfl (by omega) (by omega) (b + 1) _ _ _ (by rfl) hT.own2 p2 (by rfl) #[.int .i64 (z0 : Int)] rfl xb2 (by simp [Value.oneCell']) hm9 hT.size ?_
         intro g2 cap2 V4 q1 q2 q3
         replace hT := hT.push2 q1 q2 q3
         clear q1 q2 q3 xb2
         replace hS := HKS.out _ hT.fr
         refine hK _ _ hS ?_
         clear hK
         try simp only [Act.put, zq1, zq2, zq3, zq4, zq5, zq6]
         have hx := hT.fr.blk HX0.out (fun e => e.elim (fun e => by have := (HLA.out _ e).1; omega) (fun e => by have := (HLP.out _ e).1; omega))
         have k0 := Blk.cell hx 0; have k1 := Blk.cell hx 1; have f0 := Blk.frozen hx 0; have f1 := Blk.frozen hx 1
         simp only [List.getElem?_toArray, List.getElem?_cons_zero, List.getElem?_cons_succ] at k0 k1
         have HE := Lib.hid (makeEnd hx hT HBL2.out HBV2.out HG1.out HG2.out)
         clear hx hT hS
         refine anyY_h (i := 20) (by kernel_rfl) (by kernel_rfl) rfl rfl ?_
         intro K hK
         try simp only [zq1, zq2, zq3]
         go_simp
         refine hK _ _ ?_
         clear hK
         try simp only [Act.put, zq1, zq2, zq3, zq4, zq5, zq6]
         refine anyY_h (i := 21) (by kernel_rfl) (by kernel_rfl) rfl rfl ?_
         intro K hK
         try simp only [zq1, zq2, zq3]
         go_simp
         refine hK _ _ ?_
         clear hK
         try simp only [Act.put, zq1, zq2, zq3, zq4, zq5, zq6]
         refine anyY_last (i := 22) (by kernel_rfl) (by kernel_rfl) (by kernel_rfl) rfl rfl ?_
         try simp only [zq1, zq2, zq3]
         go_simp
         try apply_assumption
         clear k0 k1 f0 f1
         go_wp2_with fail
         refine ⟨⟨i + 1, by go_num, by omega, by omega, by first | (rw [HF.out]; done) | (rw [HF.out]; simp), Lib.hid ?_⟩, by simp [intOf]; omega⟩
         rw [HF.out, show i + 1 + 1 = m + 1 by rw [HMI.out]]
         exact HE.out
        ·intro K hK
         try simp only [zq1, zq2, zq3]
         go_simp
         obtain ⟨V2, eV⟩ : ∃ W', V1.alloc (.cells #[.int .i64 (z0 : Int)] 3) = W' := ⟨_, rfl⟩
         have hb : Below V1.heap.size V1 V2 := by rw [<- eV]; exact (Below.refl _ _).alloc (Nat.le_refl _) _
         replace xb1 := Blk.below xb1 hb xb1.lt
         have xb2 : Blk V2 V1.heap.size 3 #[.int .i64 (z0 : Int)] := by rw [<- eV]; exact Blk.new _ _ _
         have hge := hT.fr.size
         replace hT := hT.bel hb
         rw [eV]
         clear eV hb
         obtain ⟨p2, hp⟩ : ∃ p, V1.heap.size = p := ⟨_, rfl⟩
         have hge2 : V0.heap.size <= p2 := Nat.le_trans hge (Nat.le_of_eq hp)
         rw [hp] at xb2 ⊢
         clear hp hge
         replace hS := HKS.out _ hT.fr
         refine hK _ _ hS ?_
         clear hK
         try simp only [Act.put, zq1, zq2, zq3, zq4, zq5, zq6]
         refine anyY_g (i := 13) (by kernel_rfl) rfl rfl ?_
         intro K hK
         try simp only [zq1, zq2, zq3]
         refine wp_pushK rfl (.tmp 65) (.tmp 76) 22 3 rfl 1 8 _ Try.underlying22 info_int rfl (by omega) (by omega) (b + 1) _ _ _ (by rfl) hT.own1 p1 (by rfl) #[.int .i64 xn] rfl xb1 (by simp [Value.oneCell']) hm9 hT.size ?_
         intro g1 cap1 V3 q1 q2 q3
         replace xb2 := Blk.grown xb2 q2 (fun e => by have := HLA.out _ e.symm; omega)
         replace hT := hT.push1 q1 q2 q3
         clear q1 q2 q3 xb1
         replace hS := HKS.out _ hT.fr
         refine hK _ _ hS ?_
         clear hK
         try simp only [Act.put, zq1, zq2, zq3, zq4, zq5, zq6]
         refine tky (i := 19) (v := ?_) hS ?_ ?_
         rotate_left
         ·rintro w' ⟨s0', s1'⟩
          go_simp
          try with_reducible rfl
         try simp only [Act.put, zq1, zq2, zq3, zq4, zq5, zq6]
         refine anyY_g (i := 18) (by kernel_rfl) rfl rfl ?_
         intro K hK
         try simp only [zq1, zq2, zq3]
         refine wp_pushK rfl (.tmp 79) (.tmp 81) 22 3 rfl 1 8 _ Try.underlying22 info_int rfl (by omega) (by omega) (b + 1) _ _ _ (by rfl) hT.own2 p2 (by rfl) #[.int .i64 (z0 : Int)] rfl xb2 (by simp [Value.oneCell']) hm9 hT.size ?_
         intro g2 cap2 V4 q1 q2 q3
         replace hT := hT.push2 q1 q2 q3
         clear q1 q2 q3 xb2
         replace hS := HKS.out _ hT.fr
         refine hK _ _ hS ?_
         clear hK
         try simp only [Act.put, zq1, zq2, zq3, zq4, zq5, zq6]
         have hx := hT.fr.blk HX0.out (fun e => e.elim (fun e => by have := (HLA.out _ e).1; omega) (fun e => by have := (HLP.out _ e).1; omega))
         have k0 := Blk.cell hx 0; have k1 := Blk.cell hx 1; have f0 := Blk.frozen hx 0; have f1 := Blk.frozen hx 1
         simp only [List.getElem?_toArray, List.getElem?_cons_zero, List.getElem?_cons_succ] at k0 k1
         have HE := Lib.hid (makeEnd hx hT HBL2.out HBV2.out HG1.out HG2.out)
         clear hx hT hS
         refine anyY_h (i := 20) (by kernel_rfl) (by kernel_rfl) rfl rfl ?_
         intro K hK
         try simp only [zq1, zq2, zq3]
         go_simp
         refine hK _ _ ?_
         clear hK
         try simp only [Act.put, zq1, zq2, zq3, zq4, zq5, zq6]
         refine anyY_h (i := 21) (by kernel_rfl) (by kernel_rfl) rfl rfl ?_
         intro K hK
         try simp only [zq1, zq2, zq3]
         go_simp
         refine hK _ _ ?_
         clear hK
         try simp only [Act.put, zq1, zq2, zq3, zq4, zq5, zq6]
         refine anyY_last (i := 22) (by kernel_rfl) (by kernel_rfl) (by kernel_rfl) rfl rfl ?_
         try simp only [zq1, zq2, zq3]
         go_simp
         try apply_assumption
         clear k0 k1 f0 f1
         go_wp2_with fail
         refine ⟨⟨i + 1, by go_num, by omega, by omega, by first | (rw [HF.out]; done) | (rw [HF.out]; simp), Lib.hid ?_⟩, by simp [intOf]; omega⟩
         rw [HF.out, show i + 1 + 1 = m + 1 by rw [HMI.out]]
         exact HE.out
       ·intro K hK
        try simp only [zq1, zq2, zq3]
        go_simp
        obtain ⟨V1, eV⟩ : ∃ W', V0.alloc (.cells #[.int .i64 (z0 : Int)] 3) = W' := ⟨_, rfl⟩
        have hb : Below V0.heap.size V0 V1 := by rw [<- eV]; exact (Below.refl _ _).alloc (Nat.le_refl _) _
        have xb2 : Blk V1 V0.heap.size 3 #[.int .i64 (z0 : Int)] := by rw [<- eV]; exact Blk.new _ _ _
        have hge := hT.fr.size
        replace hT := hT.bel hb
        rw [eV]
        clear eV hb
        obtain ⟨p2, hp⟩ : ∃ p, V0.heap.size = p := ⟨_, rfl⟩
        have hge2 : V0.heap.size <= p2 := Nat.le_trans hge (Nat.le_of_eq hp)
        rw [hp] at xb2 ⊢
        clear hp hge
        replace hS := HKS.out _ hT.fr
        refine hK _ _ hS ?_
        clear hK
        try simp only [Act.put, zq1, zq2, zq3, zq4, zq5, zq6]
        refine anyY_g (i := 12) (by kernel_rfl) rfl rfl ?_
        intro K hK
        try simp only [zq1, zq2, zq3]
        go_simp
        rw [HXN.out]
        obtain ⟨V2, eV⟩ : ∃ W', V1.alloc (.cells #[.int .i64 xn] 3) = W' := ⟨_, rfl⟩
        have hb : Below V1.heap.size V1 V2 := by rw [<- eV]; exact (Below.refl _ _).alloc (Nat.le_refl _) _
        replace xb2 := Blk.below xb2 hb xb2.lt
        have xb1 : Blk V2 V1.heap.size 3 #[.int .i64 xn] := by rw [<- eV]; exact Blk.new _ _ _
        have hge := hT.fr.size
        replace hT := hT.bel hb
        rw [eV]
        clear eV hb
        obtain ⟨p1, hp⟩ : ∃ p, V1.heap.size = p := ⟨_, rfl⟩
        have hge1 : V0.heap.size <= p1 := Nat.le_trans hge (Nat.le_of_eq hp)
        rw [hp] at xb1 ⊢
        clear hp hge
        replace hS := HKS.out _ hT.fr
        refine hK _ _ hS ?_
        clear hK
        try simp only [Act.put, zq1, zq2, zq3, zq4, zq5, zq6]
        refine anyY_g (i := 13) (by kernel_rfl) rfl rfl ?_
        intro K hK
        try simp only [zq1, zq2, zq3]
        refine wp_pushK rfl (.tmp 65) (.tmp 76) 22 3 rfl 1 8 _ Try.underlying22 info_int rfl (by omega) (by omega) (b + 1) _ _ _ (by rfl) hT.own1 p1 (by rfl) #[.int .i64 xn] rfl xb1 (by simp [Value.oneCell']) hm9 hT.size ?_
        intro g1 cap1 V3 q1 q2 q3
        replace xb2 := Blk.grown xb2 q2 (fun e => by have := HLA.out _ e.symm; omega)
        replace hT := hT.push1 q1 q2 q3
        clear q1 q2 q3 xb1
        replace hS := HKS.out _ hT.fr
        refine hK _ _ hS ?_
        clear hK
        try simp only [Act.put, zq1, zq2, zq3, zq4, zq5, zq6]
        refine tky (i := 19) (v := ?_) hS ?_ ?_
        rotate_left
        ·rintro w' ⟨s0', s1'⟩
         go_simp
         try with_reducible rfl
        try simp only [Act.put, zq1, zq2, zq3, zq4, zq5, zq6]
        refine anyY_g (i := 18) (by kernel_rfl) rfl rfl ?_
        intro K hK
        try simp only [zq1, zq2, zq3]
        refine wp_pushK rfl (.tmp 79) (.tmp 81) 22 3 rfl 1 8 _ Try.underlying22 info_int rfl (by omega) (by omega) (b + 1) _ _ _ (by rfl) hT.own2 p2 (by rfl) #[.int .i64 (z0 : Int)] rfl xb2 (by simp [Value.oneCell']) hm9 hT.size ?_
        intro g2 cap2 V4 q1 q2 q3
        replace hT := hT.push2 q1 q2 q3
        clear q1 q2 q3 xb2
        replace hS := HKS.out _ hT.fr
        refine hK _ _ hS ?_
        clear hK
        try simp only [Act.put, zq1, zq2, zq3, zq4, zq5, zq6]
        have hx := hT.fr.blk HX0.out (fun e => e.elim (fun e => by have := (HLA.out _ e).1; omega) (fun e => by have := (HLP.out _ e).1; omega))
        have k0 := Blk.cell hx 0; have k1 := Blk.cell hx 1; have f0 := Blk.frozen hx 0; have f1 := Blk.frozen hx 1
        simp only [List.getElem?_toArray, List.getElem?_cons_zero, List.getElem?_cons_succ] at k0 k1
        have HE := Lib.hid (makeEnd hx hT HBL2.out HBV2.out HG1.out HG2.out)
        clear hx hT hS
        refine anyY_h (i := 20) (by kernel_rfl) (by kernel_rfl) rfl rfl ?_
        intro K hK
        try simp only [zq1, zq2, zq3]
        go_simp
        refine hK _ _ ?_
        clear hK
        try simp only [Act.put, zq1, zq2, zq3, zq4, zq5, zq6]
        refine anyY_h (i := 21) (by kernel_rfl) (by kernel_rfl) rfl rfl ?_
        intro K hK
        try simp only [zq1, zq2, zq3]
        go_simp
        refine hK _ _ ?_
        clear hK
        try simp only [Act.put, zq1, zq2, zq3, zq4, zq5, zq6]
        refine anyY_last (i := 22) (by kernel_rfl) (by kernel_rfl) (by kernel_rfl) rfl rfl ?_
        try simp only [zq1, zq2, zq3]
        go_simp
        try apply_assumption
        clear k0 k1 f0 f1
        go_wp2_with fail
        refine ⟨⟨i + 1, by go_num, by omega, by omega, by first | (rw [HF.out]; done) | (rw [HF.out]; simp), Lib.hid ?_⟩, by simp [intOf]; omega⟩
        rw [HF.out, show i + 1 + 1 = m + 1 by rw [HMI.out]]
        exact HE.out
      ·intro K hK
       try simp only [zq1, zq2, zq3]
       go_simp
       obtain ⟨V1, eV⟩ : ∃ W', V0.alloc (.cells #[.int .i64 (z0 : Int)] 3) = W' := ⟨_, rfl⟩
       have hb : Below V0.heap.size V0 V1 := by rw [<- eV]; exact (Below.refl _ _).alloc (Nat.le_refl _) _
       have xb2 : Blk V1 V0.heap.size 3 #[.int .i64 (z0 : Int)] := by rw [<- eV]; exact Blk.new _ _ _
       have hge := hT.fr.size
       replace hT := hT.bel hb
       rw [eV]
       clear eV hb
       obtain ⟨p2, hp⟩ : ∃ p, V0.heap.size = p := ⟨_, rfl⟩
       have hge2 : V0.heap.size <= p2 := Nat.le_trans hge (Nat.le_of_eq hp)
       rw [hp] at xb2 ⊢
       clear hp hge
       replace hS := HKS.out _ hT.fr
       refine hK _ _ hS ?_
       clear hK
       try simp only [Act.put, zq1, zq2, zq3, zq4, zq5, zq6]
       refine anyY_g (i := 6) (by kernel_rfl) rfl rfl ?_
       intro K hK
       try simp only [zq1, zq2, zq3]
       have hcx : V1.cell? ⟨gc, (m - 1), none⟩ = some (.int .i64 x) := HCX.out _ hT
       first | rw [HJ.out] at hcx | skip
       go_simp
       refine hK _ _ hS ?_
       clear hK
       try simp only [Act.put, zq1, zq2, zq3, zq4, zq5, zq6]
       clear hcx
       refine tky0 (i := 7) (v := ?_) hS ?_ ?_
       rotate_left
       ·rintro w' -
        go_simp
        try with_reducible rfl
       try simp only [Act.put, zq1, zq2, zq3, zq4, zq5, zq6]
       refine tky0 (i := 11) (v := ?_) hS ?_ ?_
       rotate_left
       ·rintro w' -
        go_simp
        try with_reducible rfl
       try simp only [Act.put, zq1, zq2, zq3, zq4, zq5, zq6]
       refine anyY_g (i := 12) (by kernel_rfl) rfl rfl ?_
       intro K hK
       try simp only [zq1, zq2, zq3]
       go_simp
       rw [HXN.out]
       obtain ⟨V2, eV⟩ : ∃ W', V1.alloc (.cells #[.int .i64 xn] 3) = W' := ⟨_, rfl⟩
       have hb : Below V1.heap.size V1 V2 := by rw [<- eV]; exact (Below.refl _ _).alloc (Nat.le_refl _) _
       replace xb2 := Blk.below xb2 hb xb2.lt
       have xb1 : Blk V2 V1.heap.size 3 #[.int .i64 xn] := by rw [<- eV]; exact Blk.new _ _ _
       have hge := hT.fr.size
       replace hT := hT.bel hb
       rw [eV]
       clear eV hb
       obtain ⟨p1, hp⟩ : ∃ p, V1.heap.size = p := ⟨_, rfl⟩
       have hge1 : V0.heap.size <= p1 := Nat.le_trans hge (Nat.le_of_eq hp)
       rw [hp] at xb1 ⊢
       clear hp hge
       replace hS := HKS.out _ hT.fr
       refine hK _ _ hS ?_
       clear hK
       try simp only [Act.put, zq1, zq2, zq3, zq4, zq5, zq6]
       refine anyY_g (i := 13) (by kernel_rfl) rfl rfl ?_
       intro K hK
       try simp only [zq1, zq2, zq3]
       refine wp_pushK rfl (.tmp 65) (.tmp 76) 22 3 rfl 1 8 _ Try.underlying22 info_int rfl (by omega) (by omega) (b + 1) _ _ _ (by rfl) hT.own1 p1 (by rfl) #[.int .i64 xn] rfl xb1 (by simp [Value.oneCell']) hm9 hT.size ?_
       intro g1 cap1 V3 q1 q2 q3
       replace xb2 := Blk.grown xb2 q2 (fun e => by have := HLA.out _ e.symm; omega)
       replace hT := hT.push1 q1 q2 q3
       clear q1 q2 q3 xb1
       replace hS := HKS.out _ hT.fr
       refine hK _ _ hS ?_
       clear hK
       try simp only [Act.put, zq1, zq2, zq3, zq4, zq5, zq6]
       refine tky (i := 19) (v := ?_) hS ?_ ?_
       rotate_left
       ·rintro w' ⟨s0', s1'⟩
        go_simp
        try with_reducible rfl
       try simp only [Act.put, zq1, zq2, zq3, zq4, zq5, zq6]
       refine anyY_g (i := 18) (by kernel_rfl) rfl rfl ?_
       intro K hK
       try simp only [zq1, zq2, zq3]
       refine wp_pushK rfl (.tmp 79) (.tmp 81) 22 3 rfl 1 8 _ Try.underlying22 info_int rfl (by omega) (by omega) (b + 1) _ _ _ (by rfl) hT.own2 p2 (by rfl) #[.int .i64 (z0 : Int)] rfl xb2 (by simp [Value.oneCell']) hm9 hT.size ?_
       intro g2 cap2 V4 q1 q2 q3
       replace hT := hT.push2 q1 q2 q3
       clear q1 q2 q3 xb2
       replace hS := HKS.out _ hT.fr
       refine hK _ _ hS ?_
       clear hK
       try simp only [Act.put, zq1, zq2, zq3, zq4, zq5, zq6]
       have hx := hT.fr.blk HX0.out (fun e => e.elim (fun e => by have := (HLA.out _ e).1; omega) (fun e => by have := (HLP.out _ e).1; omega))
       have k0 := Blk.cell hx 0; have k1 := Blk.cell hx 1; have f0 := Blk.frozen hx 0; have f1 := Blk.frozen hx 1
       simp only [List.getElem?_toArray, List.getElem?_cons_zero, List.getElem?_cons_succ] at k0 k1
       have HE := Lib.hid (makeEnd hx hT HBL2.out HBV2.out HG1.out HG2.out)
       clear hx hT hS
       refine anyY_h (i := 20) (by kernel_rfl) (by kernel_rfl) rfl rfl ?_
       intro K hK
       try simp only [zq1, zq2, zq3]
       go_simp
       refine hK _ _ ?_
       clear hK
       try simp only [Act.put, zq1, zq2, zq3, zq4, zq5, zq6]
       refine anyY_h (i := 21) (by kernel_rfl) (by kernel_rfl) rfl rfl ?_
       intro K hK
       try simp only [zq1, zq2, zq3]
       go_simp
       refine hK _ _ ?_
       clear hK
       try simp only [Act.put, zq1, zq2, zq3, zq4, zq5, zq6]
       refine anyY_last (i := 22) (by kernel_rfl) (by kernel_rfl) (by kernel_rfl) rfl rfl ?_
       try simp only [zq1, zq2, zq3]
       go_simp
       try apply_assumption
       clear k0 k1 f0 f1
       go_wp2_with fail
       refine ⟨⟨i + 1, by go_num, by omega, by omega, by first | (rw [HF.out]; done) | (rw [HF.out]; simp), Lib.hid ?_⟩, by simp [intOf]; omega⟩
       rw [HF.out, show i + 1 + 1 = m + 1 by rw [HMI.out]]
       exact HE.out
   ·have hall : someCL r0n (cs.take i) = someCL r0n (cs.take 6) := by
     have hci : cs.length = cl := HC.out.1
     rcases Nat.lt_or_ge i 6 with h6 | h6
     ·have hicl : i = cl := by omega
      rw [List.take_of_length_le (by omega), List.take_of_length_le (by omega)]
     ·rw [show i = 6 by omega]
    have hlen := (someCL_len r0n (cs.take 6)).1
    have hM : Hid (MakeAt W2 wr b v2 v3 v4 v5 (someCL r0n (cs.take 6)).c.length (someCL r0n (cs.take 6)).c (someCL r0n (cs.take 6)).l) := Lib.hid (by
     have := HMK.out
     rw [hall] at this
     have e : (someCL r0n (cs.take 6)).c.length = i + 1 := by
      obtain ⟨gc, ca, gl, la, hx, ho1, _⟩ := this
      exact ho1.len
     rw [e]
     exact this)
    rw [hall]
    clear hall hlen HMK
    by_cases hlc : i < cl
    ·have h6 : i = 6 := by omega
     subst h6
     have hlc2 : (6 : Int) < (cl : Int) := by omega
     go_wp2_with fail
     exact RESTH.out _ _ _ _ _ _ _ _ _ _ _ _ _ _ _ _ _ _ _ _ _ _ _ _ _ _ _ _ _ _ _ _ _ _ _ _ _ _ _ _ _ _ _ _ _ _ _ _ _ _ _ _ _ _ _ _ _ _ _ _ _ _ _ _ _ _ _ _ _ _ _ _ _ _ _ _ _ _ _ _ _ _ _ _ _ _ _ _ _ _ _ _ _ _ _ _ _ _ _ _ _ _ _ _ _ _ _ _ _ _ _ _ _ _ _ _ _ _ _ _ _ _ _ _ _ _ _ _ hM
    ·have hic2 : ¬ (i : Int) < (cl : Int) := by omega
     go_wp2_with fail
     exact RESTH.out _ _ _ _ _ _ _ _ _ _ _ _ _ _ _ _ _ _ _ _ _ _ _ _ _ _ _ _ _ _ _ _ _ _ _ _ _ _ _ _ _ _ _ _ _ _ _ _ _ _ _ _ _ _ _ _ _ _ _ _ _ _ _ _ _ _ _ _ _ _ _ _ _ _ _ _ _ _ _ _ _ _ _ _ _ _ _ _ _ _ _ _ _ _ _ _ _ _ _ _ _ _ _ _ _ _ _ _ _ _ _ _ _ _ _ _ _ _ _ _ _ _ _ _ _ _ _ _ hM
theorem make_any {w : World} {NA MA CSA : Option Addr} {nl nc ml mc cl cc k n : Nat} {ns ms cs : List Int} (hns : ReadsI w (.slice NA nl nc) nl ns) (hms : ReadsI w (.slice MA ml mc) ml ms) (hcs : ReadsI w (.slice CSA cl cc) cl cs) (size letters : Int) (hk : (k : Int) = 1 + size % 9) (hn : (n : Int) = 1 + letters % 3) :
  Calls Try.prog 16 #[.int .i64 size, .int .i64 letters, .slice NA nl nc, .slice MA ml mc, .slice CSA cl cc] w fun e w' => ∃ vc vl vbn vbo vfn vfe, e = .returned (.agg #[vc, vl, vbn, vbo, vfn, vfe]) /\ TabR w' vc vl vbn vbo vfn vfe (lawTab ns ms cs k n) /\ Below w.heap.size w w' := by
  refine (make_fr hns hms hcs size letters hk hn).mono ?_
  rintro e w' ⟨vc, vl, vbn, vbo, vfn, vfe, h1, h2, -, h3⟩
  exact ⟨vc, vl, vbn, vbo, vfn, vfe, h1, h2, h3⟩
end Go.Proofs.Ytacgakkcpmhgmaa
