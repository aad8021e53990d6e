/- MiniCounts -/
import Derived.Test.YtdcokkgdahbinaaVMiniMa
import Derived.Test.YtdcokkgdahbinaaVMiniMg
import Derived.Test.YtdcokkgdahbinaaVMiniP
set_option linter.unusedVariables false
set_option linter.unusedSimpArgs false
set_option maxRecDepth 100000
set_option maxHeartbeats 8000000
namespace Go.Proofs.Ytdcokkgdahbinaa
open Go Go.RowKit Go.Proofs
def BkAt (w6 W : World) (B b n : Nat) (T : List (List Nat)) (O : List Nat) (i : Nat) : Prop :=
 ∃ XA xc YA yc vals, Blk W b 26 #[.slice XA i xc, .slice YA i yc] /\ W.ownsRow B 22 1 (.slice XA i xc) i vals /\ (∀ q, q < i -> Own W B (vals.getD q undef) n (intsN (T.getD q [])) /\ Apart (.slice YA i yc) (vals.getD q undef)) /\ Own W B (.slice YA i yc) i (intsN (O.take i)) /\ Fr (fun q => q = b) w6 W
theorem bkEnd {w6 wr V : World} {B b i g1 c1 g2 c2 n z : Nat} {T : List (List Nat)} {O : List Nat} {x y u : Value} {vals : List Value} (hik : O.take (i + 1) = O.take i ++ [z])
  (hx : Blk V b 26 #[x, y]) (hv : V.ownsRow B 22 1 (sl g1 (i + 1) c1) (i + 1) (vals ++ #[u].toList)) (hr : ∀ q, q < i -> Own V B (vals.getD q undef) n (intsN (T.getD q [])) /\ Apart (sl g2 (i + 1) c2) (vals.getD q undef))
  (hu : Own V B u n (intsN (T.getD i [])) /\ Apart (sl g2 (i + 1) c2) u) (hy : V.ownsRow B 3 1 (sl g2 (i + 1) c2) (i + 1) ((intsN (O.take i)).map (Value.int .i64) ++ #[Value.int .i64 (z : Int)].toList))
  (hb : Below B wr V) (hB : B <= wr.heap.size) (hbb : b < B) (hf : Fr (fun q => q = b) w6 wr) (hw6 : w6.heap.size = B) :
  BkAt w6 ((V.setCell ⟨b, 0, none⟩ (sl g1 (i + 1) c1)).setCell ⟨b, 1, none⟩ (sl g2 (i + 1) c2)) B b n T O (i + 1) := by
  have hfr : Fr (fun q => q = b) V ((V.setCell ⟨b, 0, none⟩ (sl g1 (i + 1) c1)).setCell ⟨b, 1, none⟩ (sl g2 (i + 1) c2)) := ((Fr.refl (fun q => q = b) V).set_ (p := ⟨b, 0, none⟩) (.inl rfl) _).set_ (p := ⟨b, 1, none⟩) (.inl rfl) _
  have hlen : vals.length = i := by have := hv.1; simp at this; omega
  have kp : ∀ {t : TypeId} {s c : Nat} {z : Value} {ys : List Value}, V.ownsRow B t s z c ys -> ((V.setCell ⟨b, 0, none⟩ (sl g1 (i + 1) c1)).setCell ⟨b, 1, none⟩ (sl g2 (i + 1) c2)).ownsRow B t s z c ys := fun {t s c z ys} ho => rowFr ho hfr (fun q hq e => by have := (ho.lt q hq).1; omega)
  have hy2 : Own V B (sl g2 (i + 1) c2) (i + 1) (intsN (O.take (i + 1))) := by
   rw [hik]
   have e : (intsN (O.take i ++ [z])).map (Value.int .i64) = (intsN (O.take i)).map (Value.int .i64) ++ #[Value.int .i64 (z : Int)].toList := by simp [intsN]
   unfold Own
   rw [e]
   exact hy
  refine ⟨_, _, _, _, vals ++ [u], ?_, kp hv, fun q hq => ?_, kp hy2, ?_⟩
  ·have := (hx.set_ 0 (sl g1 (i + 1) c1)).set_ 1 (sl g2 (i + 1) c2)
   simpa using this
  ·rcases Nat.lt_or_ge q i with r | r
   ·have e1 : (vals ++ [u]).getD q undef = vals.getD q undef := by simp [List.getD, List.getElem?_append_left (show q < vals.length by omega)]
    rw [e1]
    exact ⟨kp (hr q r).1, (hr q r).2⟩
   ·obtain rfl : q = i := by omega
    have e1 : (vals ++ [u]).getD q undef = u := by simp [List.getD, <- hlen]
    rw [e1]
    exact ⟨kp hu.1, hu.2⟩
  ·have h1 : Fr (fun q => B <= q) wr V := ⟨hb.os, hb.tape, hb.output, hb.size, fun q hq hx => hb.block q (by omega)⟩
   exact (hf.then_ h1 (fun q hq e => by omega)).trans hfr
theorem BkAt.mach {w6 W : World} {B b n : Nat} {T : List (List Nat)} {O : List Nat} {i : Nat} (h : BkAt w6 W B b n T O i) (hT : T.length = i) (hn : ∀ q, q < i -> (T.getD q []).length = n) (hO : O.length = i) : ∃ XA xc YA yc, Blk W b 26 #[.slice XA i xc, .slice YA i yc] /\ NextR W (.slice XA i xc) T /\ ReadsI W (.slice YA i yc) i (intsN O) /\ i <= xc /\ xc <= 9223372036854775807 /\ i <= yc /\ yc <= 9223372036854775807 := by
 obtain ⟨XA, xc, YA, yc, vals, hx, hv, hr, hy, -⟩ := h
 have hl : OwnLL W B 22 3 1 (.slice XA i xc) i (xssT T i) := ⟨by simp [xssT], vals, hv, fun q hq => by
  rw [xssT_at T hq]
  refine ⟨by have := (hr q hq).1; unfold Own at this; rw [hn q hq]; exact this, ?_⟩
  cases hz : (vals.getD q undef).ownBlock with
  | none => exact .inr (.inl hz)
  | some z => exact .inr (.inr (fun e => rows_ne (hr q hq).1 hv (by decide) z hz (by rw [e, hz])))⟩
 have hN : NextR W (.slice XA i xc) T := hl.nextR hT (fun q hq => xssT_at T hq)
 rw [List.take_of_length_le (by omega)] at hy
 have hR := hy.readsI
 obtain ⟨_, _, e1, l1, l2⟩ := hN.form
 obtain ⟨_, _, e2, l3, l4, -⟩ := hR.form
 simp only [Value.slice.injEq, true_and] at e1 e2
 obtain ⟨rfl, -, rfl⟩ := e1
 obtain ⟨rfl, rfl⟩ := e2
 rw [hT] at l1
 exact ⟨_, _, _, _, hx, hN, hR, l1, l2, l3, l4⟩
theorem miniCounts_walk (a0 : Int) (a1 : Int) (a2 : Int) (w : World) (w0 : (Lit.int .i64 a0).wf = true) (w1 : (Lit.int .i64 a1).wf = true) (w2 : (Lit.int .i64 a2).wf = true) :
  Calls Try.prog 11 #[.int .i64 a0, .int .i64 a1, .int .i64 a2] w fun e w' => e = .returned (.bool true) /\ Below w.heap.size w w' := by
  have hk : ((1 + a0 % 12).toNat : Int) = 1 + a0 % 12 := by omega
  have hn : ((1 + a1 % 3).toNat : Int) = 1 + a1 % 3 := by omega
  obtain ⟨k, ek⟩ : ∃ k, (1 + a0 % 12).toNat = k := ⟨_, rfl⟩
  obtain ⟨n, en⟩ : ∃ n, (1 + a1 % 3).toNat = n := ⟨_, rfl⟩
  rw [ek] at hk
  rw [en] at hn
  have k1 : 1 <= (k : Int) := by omega
  have k9 : (k : Int) <= 12 := by omega
  have n1 : 1 <= (n : Int) := by omega
  have n9 : (n : Int) <= 3 := by omega
  have kz : ¬ (k : Int) = 0 := by omega
  have hz0 := Int.emod_nonneg a2 kz
  have hz1 := Int.emod_lt_of_pos a2 (show (0 : Int) < (k : Int) by omega)
  obtain ⟨z, hz⟩ : ∃ z : Nat, ((a2 % (k : Int)).toNat) = z := ⟨_, rfl⟩
  have hze : a2 % (k : Int) = (z : Int) := by omega
  have hzk : z < k := by omega
  have HK := Lib.hid hk; have HN := Lib.hid hn; have HZE := Lib.hid hze
  clear ek en hk hn hz0 hz1 hz hze w0 w1 w2
  go_enter Try.func11, Try.ntmps11
  go_wp2_with fail
  refine (known_any _).mono ?_
  rintro e w1 ⟨rfl, hb⟩
  have BB := Lib.hid hb
  clear hb
  go_wp2_with fail
  refine (within_any a0 12 (by decide) (by decide) _).mono ?_
  rintro e w5 ⟨rfl, rfl⟩
  go_wp2_with fail
  refine (within_any a1 3 (by decide) (by decide) _).mono ?_
  rintro e w5 ⟨rfl, rfl⟩
  obtain ⟨W6, hW6⟩ : ∃ W, w1.alloc (.cells #[.slice none 0 0, .slice none 0 0] 26) = W := ⟨_, rfl⟩
  have hb6 : Below w1.heap.size w1 W6 := by rw [<- hW6]; exact (Below.refl _ _).alloc (Nat.le_refl _) _
  have hx6 : Blk W6 w1.heap.size 26 #[.slice none 0 0, .slice none 0 0] := by rw [<- hW6]; exact Blk.new _ _ _
  obtain ⟨b, hb⟩ : ∃ b, b = w1.heap.size := ⟨_, rfl⟩
  rw [<- hb] at hx6
  obtain ⟨B, hB⟩ : ∃ B, W6.heap.size = B := ⟨_, rfl⟩
  have hbB : b < B := by rw [<- hB]; exact hx6.lt
  have hbs : w.heap.size <= b := by have := BB.out.size; omega
  have HBS := Lib.hid hbs
  have hst : BkAt W6 W6 B b n (cycT k n) (cycO k z) 0 := ⟨none, 0, none, 0, [], hx6, World.ownsRow_nil _ _ _ _, fun q hq => absurd hq (Nat.not_lt_zero q), Own.nil _ _, Fr.refl _ _⟩
  have HST := Lib.hid hst; have HWW := Lib.hid hW6; have HE1 := Lib.hid hb; have HW6 := Lib.hid hB; have HBb := Lib.hid hbB; have HB6 := Lib.hid hb6
  replace BB := Lib.hid (BB.out.trans (hb6.mono BB.out.size))
  clear hst hW6 hb6 hx6 hb hB hbB hbs
  go_wp2_with fail
  rw [HWW.out, <- HE1.out, <- HK.out, <- HN.out]
  go_loopw [10] (fun vi wr => ∃ i : Nat, vi = .int .i64 (i : Int) /\ i <= k /\ Hid (BkAt W6 wr B b n (cycT k n) (cycO k z) i)) (fun vi _ => k - (intOf vi).toNat)
  case atStart => exact ⟨0, rfl, Nat.zero_le _, HST⟩
  case round =>
   clear HST
   obtain ⟨i, rfl, hi, HJ⟩ := hrel
   have i0 : (0 : Int) <= (i : Int) := Int.natCast_nonneg _
   by_cases hlt : i < k
   ·obtain ⟨XA, xc, YA, yc, vals, hx5, hv5, hr5, hy5, hf5⟩ := HJ.out
    have i1 : (i : Int) < (k : Int) := by omega
    have ti : decide (i < k) = true := by simpa using hlt
    have hB5 : B <= wr.heap.size := by rw [<- HW6.out]; exact hf5.size
    have HX5 := Lib.hid hx5; have HV5 := Lib.hid hv5; have HR5 := Lib.hid hr5; have HY5 := Lib.hid hy5; have HF5 := Lib.hid hf5; have HBW5 := Lib.hid hB5
    obtain ⟨W5, hW5⟩ : ∃ W5, W5 = wr := ⟨_, rfl⟩
    subst hW5
    clear hx5 hv5 hr5 hy5 hf5 hB5 HJ
    have HMD : Hid (((i : Int) + 1) % (k : Int) = (((i + 1) % k : Nat) : Int)) := Lib.hid (by rw [Int.natCast_emod, Int.natCast_add]; rfl)
    have hmd0 : ((i + 1) % k : Nat) < k := Nat.mod_lt _ (by omega)
    generalize hM : (i + 1) % k = M at *
    have HM := Lib.hid hM
    clear hM
    go_wp2_with fail
    go_loopw [11, 12] (fun v11 v12 wr => ∃ j : Nat, v12 = .int .i64 (j : Int) /\ j <= n /\ Hid (Own wr W5.heap.size v11 j (intsN (List.replicate j M))) /\ Hid (Below W5.heap.size W5 wr)) (fun _ v12 _ => n - (intOf v12).toNat)
    case atStart => exact ⟨0, rfl, Nat.zero_le _, Lib.hid (Own.nil _ _), Lib.hid (Below.refl _ _)⟩
    case round =>
     obtain ⟨j, rfl, hj, HL, HB5⟩ := hrel
     have j0 : (0 : Int) <= (j : Int) := Int.natCast_nonneg _
     obtain ⟨-, LA, lc, hvl, hlc, hlc2, -, -⟩ := id HL.out.readsI
     subst hvl
     unfold maxLen at hlc2
     by_cases hlj : j < n
     ·have j1 : (j : Int) < (n : Int) := by omega
      have tj : decide (j < n) = true := by simpa using hlj
      have hbs := HB5.out.size
      have hj9 : j <= 1000000000 := by omega
      go_wp2_with (at_builtin; rw [HMD.out]; refine wpList_push rfl (.tmp 34) (.tmp 39) rfl W5.heap.size wr (.slice LA j lc) j (intsN (List.replicate j M)) (M : Int) (by rfl) HL.out (by rfl) hj9 hbs ?_; intro g9 cap9 w9 hp9; have HP := Lib.hid hp9; clear hp9)
      refine ⟨⟨j + 1, by go_num, by omega, Lib.hid ?_, Lib.hid (HP.out.below HB5.out (Nat.le_refl _) hbs)⟩, by simp [intOf]; omega⟩
      have e : intsN (List.replicate (j + 1) M) = intsN (List.replicate j M) ++ [(M : Int)] := by rw [List.replicate_succ']; simp [intsN]
      rw [e]
      exact HP.out.own
     ·obtain rfl : n = j := by omega
      have hbw5 : Below B W5 wr := HB5.out.mono HBW5.out
      have HX := Lib.hid (Blk.below HX5.out hbw5 HBb.out); have HF := Lib.hid (HF5.out.then_ (Fr.of_below (X := fun _ => False) HB5.out) (fun _ _ e => e.elim)); have HBW := Lib.hid (Nat.le_trans HBW5.out HB5.out.size)
      have HV0 := Lib.hid (ownsRow_bel HV5.out HB5.out); have HY0 := Lib.hid (HY5.out.below_top HB5.out)
      have HR0 := Lib.hid (fun q (hq : q < i) => And.intro ((HR5.out q hq).1.below_top HB5.out) (HR5.out q hq).2)
      have HA0 : Hid (Apart (.slice YA i yc) (.slice LA n lc)) := Lib.hid (by
       cases hz : (Value.slice YA i yc).ownBlock with
       | none => exact .inl hz
       | some z =>
         refine .inr (.inr (fun e => ?_))
         rw [hz] at e
         have h1 := (HY5.out.lt z hz).2
         have h2 := (HL.out.lt z e.symm).1
         omega)
      have HL0 : Hid (Own wr B (.slice LA n lc) n (intsN ((cycT k n).getD i []))) := Lib.hid (by
       rw [cycT_at hlt, HM.out]
       exact HL.out.more HBW5.out)
      have HKS : Hid (∀ W : World, Below B wr W -> (fun W : World => W.cell? ⟨b, 0, none⟩ = some (.slice XA i xc) /\ W.cell? ⟨b, 1, none⟩ = some (.slice YA i yc)) W) := Lib.hid (fun W hW => by
       have y0 := (Blk.below HX.out hW HBb.out).cell 0
       have y1 := (Blk.below HX.out hW HBb.out).cell 1
       exact ⟨by simpa using y0, by simpa using y1⟩)
      have hi9 : i <= 1000000 := by omega
      clear HL HB5 hbw5 HV5 HY5 HR5 HX5 HF5 HBW5
      go_wp2_with fail
      refine (within_any a2 (k : Int) (by omega) (by omega) _).mono ?_
      rintro e w5 ⟨rfl, hw5⟩
      subst hw5
      rw [HZE.out]
      have HTK : Hid ((cycO k z).take (i + 1) = (cycO k z).take i ++ [if i = z then 1 else 0]) := Lib.hid (by
       rw [List.take_add_one, List.getElem?_eq_getElem (by rw [cycO_len]; exact hlt)]
       simp [cycO])
      by_cases hiz : i = z
      ·rw [if_pos hiz] at HTK
       have b1 : ((i : Int) == (z : Int)) = true := by simp; omega
       have b2 : (i == z) = true := by simpa using hiz
       have b3 : (i : Int) = (z : Int) := by omega
       have HTY : Hid ((1 : Int) = ((1 : Nat) : Int)) := Lib.hid rfl
       have HIZ := Lib.hid hiz
       clear hiz b3
       go_wp2_with fail
       refine region_y 11 (fun W : World => W.cell? ⟨b, 0, none⟩ = some (.slice XA i xc) /\ W.cell? ⟨b, 1, none⟩ = some (.slice YA i yc)) (by kernel_rfl) ?_
       have hb : Below B wr wr.drew := (Below.refl _ _).drew
       have hbn : Below wr.heap.size wr wr.drew := (Below.refl _ _).drew
       have hS := HKS.out _ hb
       have hV := ownsRow_bel HV0.out hbn
       have hR := fun q hq => And.intro ((HR0.out q hq).1.below_top hbn) (HR0.out q hq).2
       have hY := HY0.out.below_top hbn
       have hL := HL0.out.below_top hbn
       have hA := HA0.out
       have hBV : B <= wr.drew.heap.size := Nat.le_trans HBW.out hb.size
       clear hbn
       generalize wr.drew = V0 at *
       refine tky (i := 0) (v := ?_) hS ?_ ?_
       rotate_left
       ·rintro w' ⟨s0', s1'⟩
        go_simp
        try with_reducible rfl
       try simp only [Act.put, zq1, zq2, zq3, zq4, zq5, zq6]
       refine tky (i := 1) (v := ?_) hS ?_ ?_
       rotate_left
       ·rintro w' ⟨s0', s1'⟩
        go_simp
        try with_reducible rfl
       try simp only [Act.put, zq1, zq2, zq3, zq4, zq5, zq6]
       refine tky0 (i := 2) (v := ?_) hS ?_ ?_
       rotate_left
       ·rintro w' -
        go_simp
        try with_reducible rfl
       try simp only [Act.put, zq1, zq2, zq3, zq4, zq5, zq6]
       refine tky (i := 5) (v := ?_) hS ?_ ?_
       rotate_left
       ·rintro w' ⟨s0', s1'⟩
        go_simp
        try with_reducible rfl
       try simp only [Act.put, zq1, zq2, zq3, zq4, zq5, zq6]
       refine tky (i := 6) (v := ?_) hS ?_ ?_
       rotate_left
       ·rintro w' ⟨s0', s1'⟩
        go_simp
        try with_reducible rfl
       try simp only [Act.put, zq1, zq2, zq3, zq4, zq5, zq6]
       refine tkyg [9, 8] (i := 7) (v := ?_) hS ?_ ?_
       rotate_left
       ·rintro w' ⟨s0', s1'⟩
        go_simp
        try with_reducible rfl
       try simp only [Act.put, zq1, zq2, zq3, zq4, zq5, zq6]
       refine anyY_2 (i := 3) (j := 8) (by kernel_rfl) rfl rfl rfl rfl ?_ ?_
       ·intro K hK
        try simp only [zq1, zq2, zq3]
        go_simp
        obtain ⟨V1, eV⟩ : ∃ W', V0.alloc (.cells #[.slice LA n lc] 22) = W' := ⟨_, rfl⟩
        have hbn : Below V0.heap.size V0 V1 := by rw [<- eV]; exact (Below.refl _ _).alloc (Nat.le_refl _) _
        have xb : Blk V1 V0.heap.size 22 #[.slice LA n lc] := by rw [<- eV]; exact Blk.new _ _ _
        rw [eV]
        clear eV
        replace hV := ownsRow_bel hV hbn
        replace hR := fun q hq => And.intro (ownsRow_bel (hR q hq).1 hbn) (hR q hq).2
        replace hY := ownsRow_bel hY hbn
        replace hL := ownsRow_bel hL hbn
        replace hb := hb.trans (hbn.mono hBV)
        replace hBV := Nat.le_trans hBV hbn.size
        obtain ⟨p1, hp1⟩ : ∃ p, p = V0.heap.size := ⟨_, rfl⟩
        rw [<- hp1] at xb ⊢
        clear hp1 hbn
        replace hS := HKS.out _ hb
        refine hK _ _ hS ?_
        clear hK
        try simp only [Act.put, zq1, zq2, zq3, zq4, zq5, zq6]
        refine anyY_2 (i := 4) (j := 8) (by kernel_rfl) rfl rfl rfl rfl ?_ ?_
        ·intro K hK
         try simp only [zq1, zq2, zq3]
         refine wp_pushK rfl (.tmp 47) (.tmp 49) 24 22 rfl 1 24 _ Try.underlying24 info_row rfl (by omega) (by omega) B (.slice XA i xc) i vals (by rfl) hV p1 (by rfl) #[.slice LA n lc] rfl xb (by simp [Value.oneCell']) hi9 hBV ?_
         intro g9 cap9 V2 q1 q2 q3
         replace hR := fun q hq => And.intro (rowTurn (hR q hq).1 hV q2 (by decide)) (hR q hq).2
         replace hY := rowTurn hY hV q2 (by decide)
         replace hL := rowTurn hL hV q2 (by decide)
         replace hb := below_grown hb q2 hBV (fun z hz => (hV.lt z hz).1)
         replace hBV := Nat.le_trans hBV q2.size
         replace hV := q1
         clear q1 q2 q3 xb
         replace hS := HKS.out _ hb
         refine hK _ _ hS ?_
         clear hK
         try simp only [Act.put, zq1, zq2, zq3, zq4, zq5, zq6]
         refine tky (i := 10) (v := ?_) hS ?_ ?_
         rotate_left
         ·rintro w' ⟨s0', s1'⟩
          go_simp
          try with_reducible rfl
         try simp only [Act.put, zq1, zq2, zq3, zq4, zq5, zq6]
         refine anyY_g (i := 8) (by kernel_rfl) rfl rfl ?_
         intro K hK
         try simp only [zq1, zq2, zq3]
         go_simp
         obtain ⟨V3, eV⟩ : ∃ W', V2.alloc (.cells #[.int .i64 (1 : Int)] 3) = W' := ⟨_, rfl⟩
         have hbn : Below V2.heap.size V2 V3 := by rw [<- eV]; exact (Below.refl _ _).alloc (Nat.le_refl _) _
         have xc9 : Blk V3 V2.heap.size 3 #[.int .i64 (1 : Int)] := by rw [<- eV]; exact Blk.new _ _ _
         rw [eV]
         clear eV
         replace hV := ownsRow_bel hV hbn
         replace hR := fun q hq => And.intro (ownsRow_bel (hR q hq).1 hbn) (hR q hq).2
         replace hY := ownsRow_bel hY hbn
         replace hL := ownsRow_bel hL hbn
         replace hb := hb.trans (hbn.mono hBV)
         replace hBV := Nat.le_trans hBV hbn.size
         obtain ⟨p2, hp2⟩ : ∃ p, p = V2.heap.size := ⟨_, rfl⟩
         rw [<- hp2] at xc9 ⊢
         clear hp2 hbn
         replace hS := HKS.out _ hb
         refine hK _ _ hS ?_
         clear hK
         try simp only [Act.put, zq1, zq2, zq3, zq4, zq5, zq6]
         refine anyY_g (i := 9) (by kernel_rfl) rfl rfl ?_
         intro K hK
         try simp only [zq1, zq2, zq3]
         refine wp_pushK rfl (.tmp 52) (.tmp 54) 22 3 rfl 1 8 _ Try.underlying22 info_int rfl (by omega) (by omega) B (.slice YA i yc) i _ (by rfl) hY p2 (by rfl) #[.int .i64 (1 : Int)] rfl xc9 (by simp [Value.oneCell']) hi9 hBV ?_
         intro g7 cap7 V4 q1 q2 q3
         replace hV := rowTurn hV hY q2 (by decide)
         have hR2 := fun q hq => keep_push (hR q hq).1 (hR q hq).2 q2 q3 (i + 1) cap7
         have hL2 := keep_push hL hA q2 q3 (i + 1) cap7
         replace hb := below_grown hb q2 hBV (fun z hz => (hY.lt z hz).1)
         replace hBV := Nat.le_trans hBV q2.size
         replace hY := q1
         clear q1 q2 q3 xc9 hR hL hA
         replace hS := HKS.out _ hb
         refine hK _ _ hS ?_
         clear hK
         try simp only [Act.put, zq1, zq2, zq3, zq4, zq5, zq6]
         have hx4 := Blk.below HX.out hb HBb.out
         have k0 := Blk.cell hx4 0; have k1 := Blk.cell hx4 1; have f0 := Blk.frozen hx4 0; have f1 := Blk.frozen hx4 1
         simp only [List.getElem?_toArray, List.getElem?_cons_zero, List.getElem?_cons_succ] at k0 k1
         have hY := hY
         have HE := Lib.hid (bkEnd HTK.out hx4 hV hR2 hL2 hY hb HBW.out HBb.out HF.out HW6.out)
         clear hx4 hV hR2 hL2 hY hb hBV hS
         refine anyY_h (i := 11) (by kernel_rfl) (by kernel_rfl) rfl rfl ?_
         intro K hK
         try simp only [zq1, zq2, zq3]
         go_simp
         refine hK _ _ ?_
         clear hK
         try simp only [Act.put, zq1, zq2, zq3, zq4, zq5, zq6]
         refine anyY_h (i := 12) (by kernel_rfl) (by kernel_rfl) rfl rfl ?_
         intro K hK
         try simp only [zq1, zq2, zq3]
         go_simp
         refine hK _ _ ?_
         clear hK
         try simp only [Act.put, zq1, zq2, zq3, zq4, zq5, zq6]
         refine anyY_last (i := 13) (by kernel_rfl) (by kernel_rfl) (by kernel_rfl) rfl rfl ?_
         try simp only [zq1, zq2, zq3]
         go_simp
         try apply_assumption
         clear k0 k1 f0 f1
         go_wp2_with fail
         exact ⟨⟨i + 1, by go_num, by omega, HE⟩, by simp [intOf]; omega⟩
        ·intro K hK
         try simp only [zq1, zq2, zq3]
         go_simp
         obtain ⟨V2, eV⟩ : ∃ W', V1.alloc (.cells #[.int .i64 (1 : Int)] 3) = W' := ⟨_, rfl⟩
         have hbn : Below V1.heap.size V1 V2 := by rw [<- eV]; exact (Below.refl _ _).alloc (Nat.le_refl _) _
         have xc9 : Blk V2 V1.heap.size 3 #[.int .i64 (1 : Int)] := by rw [<- eV]; exact Blk.new _ _ _
         rw [eV]
         clear eV
         replace hV := ownsRow_bel hV hbn
         replace hR := fun q hq => And.intro (ownsRow_bel (hR q hq).1 hbn) (hR q hq).2
         replace hY := ownsRow_bel hY hbn
         replace hL := ownsRow_bel hL hbn
         replace hb := hb.trans (hbn.mono hBV)
         replace hBV := Nat.le_trans hBV hbn.size
         replace xb := Blk.below xb hbn xb.lt
         obtain ⟨p2, hp2⟩ : ∃ p, p = V1.heap.size := ⟨_, rfl⟩
         rw [<- hp2] at xc9 ⊢
         clear hp2 hbn
         replace hS := HKS.out _ hb
         refine hK _ _ hS ?_
         clear hK
         try simp only [Act.put, zq1, zq2, zq3, zq4, zq5, zq6]
         refine anyY_g (i := 4) (by kernel_rfl) rfl rfl ?_
         intro K hK
         try simp only [zq1, zq2, zq3]
         refine wp_pushK rfl (.tmp 47) (.tmp 49) 24 22 rfl 1 24 _ Try.underlying24 info_row rfl (by omega) (by omega) B (.slice XA i xc) i vals (by rfl) hV p1 (by rfl) #[.slice LA n lc] rfl xb (by simp [Value.oneCell']) hi9 hBV ?_
         intro g9 cap9 V3 q1 q2 q3
         replace hR := fun q hq => And.intro (rowTurn (hR q hq).1 hV q2 (by decide)) (hR q hq).2
         replace hY := rowTurn hY hV q2 (by decide)
         replace hL := rowTurn hL hV q2 (by decide)
         replace xc9 := blkTurn xc9 hV q2 (by decide)
         replace hb := below_grown hb q2 hBV (fun z hz => (hV.lt z hz).1)
         replace hBV := Nat.le_trans hBV q2.size
         replace hV := q1
         clear q1 q2 q3 xb
         replace hS := HKS.out _ hb
         refine hK _ _ hS ?_
         clear hK
         try simp only [Act.put, zq1, zq2, zq3, zq4, zq5, zq6]
         refine tky (i := 10) (v := ?_) hS ?_ ?_
         rotate_left
         ·rintro w' ⟨s0', s1'⟩
          go_simp
          try with_reducible rfl
         try simp only [Act.put, zq1, zq2, zq3, zq4, zq5, zq6]
         refine anyY_g (i := 9) (by kernel_rfl) rfl rfl ?_
         intro K hK
         try simp only [zq1, zq2, zq3]
         refine wp_pushK rfl (.tmp 52) (.tmp 54) 22 3 rfl 1 8 _ Try.underlying22 info_int rfl (by omega) (by omega) B (.slice YA i yc) i _ (by rfl) hY p2 (by rfl) #[.int .i64 (1 : Int)] rfl xc9 (by simp [Value.oneCell']) hi9 hBV ?_
         intro g7 cap7 V4 q1 q2 q3
         replace hV := rowTurn hV hY q2 (by decide)
         have hR2 := fun q hq => keep_push (hR q hq).1 (hR q hq).2 q2 q3 (i + 1) cap7
         have hL2 := keep_push hL hA q2 q3 (i + 1) cap7
         replace hb := below_grown hb q2 hBV (fun z hz => (hY.lt z hz).1)
         replace hBV := Nat.le_trans hBV q2.size
         replace hY := q1
         clear q1 q2 q3 xc9 hR hL hA
         replace hS := HKS.out _ hb
         refine hK _ _ hS ?_
         clear hK
         try simp only [Act.put, zq1, zq2, zq3, zq4, zq5, zq6]
         have hx4 := Blk.below HX.out hb HBb.out
         have k0 := Blk.cell hx4 0; have k1 := Blk.cell hx4 1; have f0 := Blk.frozen hx4 0; have f1 := Blk.frozen hx4 1
         simp only [List.getElem?_toArray, List.getElem?_cons_zero, List.getElem?_cons_succ] at k0 k1
         have hY := hY
         have HE := Lib.hid (bkEnd HTK.out hx4 hV hR2 hL2 hY hb HBW.out HBb.out HF.out HW6.out)
         clear hx4 hV hR2 hL2 hY hb hBV hS
         refine anyY_h (i := 11) (by kernel_rfl) (by kernel_rfl) rfl rfl ?_
         intro K hK
         try simp only [zq1, zq2, zq3]
         go_simp
         refine hK _ _ ?_
         clear hK
         try simp only [Act.put, zq1, zq2, zq3, zq4, zq5, zq6]
         refine anyY_h (i := 12) (by kernel_rfl) (by kernel_rfl) rfl rfl ?_
         intro K hK
         try simp only [zq1, zq2, zq3]
         go_simp
         refine hK _ _ ?_
         clear hK
         try simp only [Act.put, zq1, zq2, zq3, zq4, zq5, zq6]
         refine anyY_last (i := 13) (by kernel_rfl) (by kernel_rfl) (by kernel_rfl) rfl rfl ?_
         try simp only [zq1, zq2, zq3]
         go_simp
         try apply_assumption
         clear k0 k1 f0 f1
         go_wp2_with fail
         exact ⟨⟨i + 1, by go_num, by omega, HE⟩, by simp [intOf]; omega⟩
       ·intro K hK
        try simp only [zq1, zq2, zq3]
        go_simp
        obtain ⟨V1, eV⟩ : ∃ W', V0.alloc (.cells #[.int .i64 (1 : Int)] 3) = W' := ⟨_, rfl⟩
        have hbn : Below V0.heap.size V0 V1 := by rw [<- eV]; exact (Below.refl _ _).alloc (Nat.le_refl _) _
        have xc9 : Blk V1 V0.heap.size 3 #[.int .i64 (1 : Int)] := by rw [<- eV]; exact Blk.new _ _ _
        rw [eV]
        clear eV
        replace hV := ownsRow_bel hV hbn
        replace hR := fun q hq => And.intro (ownsRow_bel (hR q hq).1 hbn) (hR q hq).2
        replace hY := ownsRow_bel hY hbn
        replace hL := ownsRow_bel hL hbn
        replace hb := hb.trans (hbn.mono hBV)
        replace hBV := Nat.le_trans hBV hbn.size
        obtain ⟨p2, hp2⟩ : ∃ p, p = V0.heap.size := ⟨_, rfl⟩
        rw [<- hp2] at xc9 ⊢
        clear hp2 hbn
        replace hS := HKS.out _ hb
        refine hK _ _ hS ?_
        clear hK
        try simp only [Act.put, zq1, zq2, zq3, zq4, zq5, zq6]
        refine anyY_g (i := 3) (by kernel_rfl) rfl rfl ?_
        intro K hK
        try simp only [zq1, zq2, zq3]
        go_simp
        obtain ⟨V2, eV⟩ : ∃ W', V1.alloc (.cells #[.slice LA n lc] 22) = W' := ⟨_, rfl⟩
        have hbn : Below V1.heap.size V1 V2 := by rw [<- eV]; exact (Below.refl _ _).alloc (Nat.le_refl _) _
        have xb : Blk V2 V1.heap.size 22 #[.slice LA n lc] := by rw [<- eV]; exact Blk.new _ _ _
        rw [eV]
        clear eV
        replace hV := ownsRow_bel hV hbn
        replace hR := fun q hq => And.intro (ownsRow_bel (hR q hq).1 hbn) (hR q hq).2
        replace hY := ownsRow_bel hY hbn
        replace hL := ownsRow_bel hL hbn
        replace hb := hb.trans (hbn.mono hBV)
        replace hBV := Nat.le_trans hBV hbn.size
        replace xc9 := Blk.below xc9 hbn xc9.lt
        obtain ⟨p1, hp1⟩ : ∃ p, p = V1.heap.size := ⟨_, rfl⟩
        rw [<- hp1] at xb ⊢
        clear hp1 hbn
        replace hS := HKS.out _ hb
        refine hK _ _ hS ?_
        clear hK
        try simp only [Act.put, zq1, zq2, zq3, zq4, zq5, zq6]
        refine anyY_g (i := 4) (by kernel_rfl) rfl rfl ?_
        intro K hK
        try simp only [zq1, zq2, zq3]
        refine wp_pushK rfl (.tmp 47) (.tmp 49) 24 22 rfl 1 24 _ Try.underlying24 info_row rfl (by omega) (by omega) B (.slice XA i xc) i vals (by rfl) hV p1 (by rfl) #[.slice LA n lc] rfl xb (by simp [Value.oneCell']) hi9 hBV ?_
        intro g9 cap9 V3 q1 q2 q3
        replace hR := fun q hq => And.intro (rowTurn (hR q hq).1 hV q2 (by decide)) (hR q hq).2
        replace hY := rowTurn hY hV q2 (by decide)
        replace hL := rowTurn hL hV q2 (by decide)
        replace xc9 := blkTurn xc9 hV q2 (by decide)
        replace hb := below_grown hb q2 hBV (fun z hz => (hV.lt z hz).1)
        replace hBV := Nat.le_trans hBV q2.size
        replace hV := q1
        clear q1 q2 q3 xb
        replace hS := HKS.out _ hb
        refine hK _ _ hS ?_
        clear hK
        try simp only [Act.put, zq1, zq2, zq3, zq4, zq5, zq6]
        refine tky (i := 10) (v := ?_) hS ?_ ?_
        rotate_left
        ·rintro w' ⟨s0', s1'⟩
         go_simp
         try with_reducible rfl
        try simp only [Act.put, zq1, zq2, zq3, zq4, zq5, zq6]
        refine anyY_g (i := 9) (by kernel_rfl) rfl rfl ?_
        intro K hK
        try simp only [zq1, zq2, zq3]
        refine wp_pushK rfl (.tmp 52) (.tmp 54) 22 3 rfl 1 8 _ Try.underlying22 info_int rfl (by omega) (by omega) B (.slice YA i yc) i _ (by rfl) hY p2 (by rfl) #[.int .i64 (1 : Int)] rfl xc9 (by simp [Value.oneCell']) hi9 hBV ?_
        intro g7 cap7 V4 q1 q2 q3
        replace hV := rowTurn hV hY q2 (by decide)
        have hR2 := fun q hq => keep_push (hR q hq).1 (hR q hq).2 q2 q3 (i + 1) cap7
        have hL2 := keep_push hL hA q2 q3 (i + 1) cap7
        replace hb := below_grown hb q2 hBV (fun z hz => (hY.lt z hz).1)
        replace hBV := Nat.le_trans hBV q2.size
        replace hY := q1
        clear q1 q2 q3 xc9 hR hL hA
        replace hS := HKS.out _ hb
        refine hK _ _ hS ?_
        clear hK
        try simp only [Act.put, zq1, zq2, zq3, zq4, zq5, zq6]
        have hx4 := Blk.below HX.out hb HBb.out
        have k0 := Blk.cell hx4 0; have k1 := Blk.cell hx4 1; have f0 := Blk.frozen hx4 0; have f1 := Blk.frozen hx4 1
        simp only [List.getElem?_toArray, List.getElem?_cons_zero, List.getElem?_cons_succ] at k0 k1
        have hY := hY
        have HE := Lib.hid (bkEnd HTK.out hx4 hV hR2 hL2 hY hb HBW.out HBb.out HF.out HW6.out)
        clear hx4 hV hR2 hL2 hY hb hBV hS
        refine anyY_h (i := 11) (by kernel_rfl) (by kernel_rfl) rfl rfl ?_
        intro K hK
        try simp only [zq1, zq2, zq3]
        go_simp
        refine hK _ _ ?_
        clear hK
        try simp only [Act.put, zq1, zq2, zq3, zq4, zq5, zq6]
        refine anyY_h (i := 12) (by kernel_rfl) (by kernel_rfl) rfl rfl ?_
        intro K hK
        try simp only [zq1, zq2, zq3]
        go_simp
        refine hK _ _ ?_
        clear hK
        try simp only [Act.put, zq1, zq2, zq3, zq4, zq5, zq6]
        refine anyY_last (i := 13) (by kernel_rfl) (by kernel_rfl) (by kernel_rfl) rfl rfl ?_
        try simp only [zq1, zq2, zq3]
        go_simp
        try apply_assumption
        clear k0 k1 f0 f1
        go_wp2_with fail
        exact ⟨⟨i + 1, by go_num, by omega, HE⟩, by simp [intOf]; omega⟩
      ·rw [if_neg hiz] at HTK
       have b1 : ((i : Int) == (z : Int)) = false := by simp; omega
       have b2 : (i == z) = false := by simpa using hiz
       have b3 : ¬ (i : Int) = (z : Int) := by omega
       go_wp2_with fail
       refine region_y 11 (fun W : World => W.cell? ⟨b, 0, none⟩ = some (.slice XA i xc) /\ W.cell? ⟨b, 1, none⟩ = some (.slice YA i yc)) (by kernel_rfl) ?_
       have hb : Below B wr wr.drew := (Below.refl _ _).drew
       have hbn : Below wr.heap.size wr wr.drew := (Below.refl _ _).drew
       have hS := HKS.out _ hb
       have hV := ownsRow_bel HV0.out hbn
       have hR := fun q hq => And.intro ((HR0.out q hq).1.below_top hbn) (HR0.out q hq).2
       have hY := HY0.out.below_top hbn
       have hL := HL0.out.below_top hbn
       have hA := HA0.out
       have hBV : B <= wr.drew.heap.size := Nat.le_trans HBW.out hb.size
       clear hbn
       generalize wr.drew = V0 at *
       refine tky (i := 0) (v := ?_) hS ?_ ?_
       rotate_left
       ·rintro w' ⟨s0', s1'⟩
        go_simp
        try with_reducible rfl
       try simp only [Act.put, zq1, zq2, zq3, zq4, zq5, zq6]
       refine tky (i := 1) (v := ?_) hS ?_ ?_
       rotate_left
       ·rintro w' ⟨s0', s1'⟩
        go_simp
        try with_reducible rfl
       try simp only [Act.put, zq1, zq2, zq3, zq4, zq5, zq6]
       refine tky0 (i := 2) (v := ?_) hS ?_ ?_
       rotate_left
       ·rintro w' -
        go_simp
        try with_reducible rfl
       try simp only [Act.put, zq1, zq2, zq3, zq4, zq5, zq6]
       refine tky (i := 5) (v := ?_) hS ?_ ?_
       rotate_left
       ·rintro w' ⟨s0', s1'⟩
        go_simp
        try with_reducible rfl
       try simp only [Act.put, zq1, zq2, zq3, zq4, zq5, zq6]
       refine tky (i := 6) (v := ?_) hS ?_ ?_
       rotate_left
       ·rintro w' ⟨s0', s1'⟩
        go_simp
        try with_reducible rfl
       try simp only [Act.put, zq1, zq2, zq3, zq4, zq5, zq6]
       refine tkyg [9, 8] (i := 7) (v := ?_) hS ?_ ?_
       rotate_left
       ·rintro w' ⟨s0', s1'⟩
        go_simp
        try with_reducible rfl
       try simp only [Act.put, zq1, zq2, zq3, zq4, zq5, zq6]
       refine anyY_2 (i := 3) (j := 8) (by kernel_rfl) rfl rfl rfl rfl ?_ ?_
       ·intro K hK
        try simp only [zq1, zq2, zq3]
        go_simp
        obtain ⟨V1, eV⟩ : ∃ W', V0.alloc (.cells #[.slice LA n lc] 22) = W' := ⟨_, rfl⟩
        have hbn : Below V0.heap.size V0 V1 := by rw [<- eV]; exact (Below.refl _ _).alloc (Nat.le_refl _) _
        have xb : Blk V1 V0.heap.size 22 #[.slice LA n lc] := by rw [<- eV]; exact Blk.new _ _ _
        rw [eV]
        clear eV
        replace hV := ownsRow_bel hV hbn
        replace hR := fun q hq => And.intro (ownsRow_bel (hR q hq).1 hbn) (hR q hq).2
        replace hY := ownsRow_bel hY hbn
        replace hL := ownsRow_bel hL hbn
        replace hb := hb.trans (hbn.mono hBV)
        replace hBV := Nat.le_trans hBV hbn.size
        obtain ⟨p1, hp1⟩ : ∃ p, p = V0.heap.size := ⟨_, rfl⟩
        rw [<- hp1] at xb ⊢
        clear hp1 hbn
        replace hS := HKS.out _ hb
        refine hK _ _ hS ?_
        clear hK
        try simp only [Act.put, zq1, zq2, zq3, zq4, zq5, zq6]
        refine anyY_2 (i := 4) (j := 8) (by kernel_rfl) rfl rfl rfl rfl ?_ ?_
        ·intro K hK
         try simp only [zq1, zq2, zq3]
         refine wp_pushK rfl (.tmp 47) (.tmp 49) 24 22 rfl 1 24 _ Try.underlying24 info_row rfl (by omega) (by omega) B (.slice XA i xc) i vals (by rfl) hV p1 (by rfl) #[.slice LA n lc] rfl xb (by simp [Value.oneCell']) hi9 hBV ?_
         intro g9 cap9 V2 q1 q2 q3
         replace hR := fun q hq => And.intro (rowTurn (hR q hq).1 hV q2 (by decide)) (hR q hq).2
         replace hY := rowTurn hY hV q2 (by decide)
         replace hL := rowTurn hL hV q2 (by decide)
         replace hb := below_grown hb q2 hBV (fun z hz => (hV.lt z hz).1)
         replace hBV := Nat.le_trans hBV q2.size
         replace hV := q1
         clear q1 q2 q3 xb
         replace hS := HKS.out _ hb
         refine hK _ _ hS ?_
         clear hK
         try simp only [Act.put, zq1, zq2, zq3, zq4, zq5, zq6]
         refine tky (i := 10) (v := ?_) hS ?_ ?_
         rotate_left
         ·rintro w' ⟨s0', s1'⟩
          go_simp
          try with_reducible rfl
         try simp only [Act.put, zq1, zq2, zq3, zq4, zq5, zq6]
         refine anyY_g (i := 8) (by kernel_rfl) rfl rfl ?_
         intro K hK
         try simp only [zq1, zq2, zq3]
         go_simp
         obtain ⟨V3, eV⟩ : ∃ W', V2.alloc (.cells #[.int .i64 (0 : Int)] 3) = W' := ⟨_, rfl⟩
         have hbn : Below V2.heap.size V2 V3 := by rw [<- eV]; exact (Below.refl _ _).alloc (Nat.le_refl _) _
         have xc9 : Blk V3 V2.heap.size 3 #[.int .i64 (0 : Int)] := by rw [<- eV]; exact Blk.new _ _ _
         rw [eV]
         clear eV
         replace hV := ownsRow_bel hV hbn
         replace hR := fun q hq => And.intro (ownsRow_bel (hR q hq).1 hbn) (hR q hq).2
         replace hY := ownsRow_bel hY hbn
         replace hL := ownsRow_bel hL hbn
         replace hb := hb.trans (hbn.mono hBV)
         replace hBV := Nat.le_trans hBV hbn.size
         obtain ⟨p2, hp2⟩ : ∃ p, p = V2.heap.size := ⟨_, rfl⟩
         rw [<- hp2] at xc9 ⊢
         clear hp2 hbn
         replace hS := HKS.out _ hb
         refine hK _ _ hS ?_
         clear hK
         try simp only [Act.put, zq1, zq2, zq3, zq4, zq5, zq6]
         refine anyY_g (i := 9) (by kernel_rfl) rfl rfl ?_
         intro K hK
         try simp only [zq1, zq2, zq3]
         refine wp_pushK rfl (.tmp 52) (.tmp 54) 22 3 rfl 1 8 _ Try.underlying22 info_int rfl (by omega) (by omega) B (.slice YA i yc) i _ (by rfl) hY p2 (by rfl) #[.int .i64 (0 : Int)] rfl xc9 (by simp [Value.oneCell']) hi9 hBV ?_
         intro g7 cap7 V4 q1 q2 q3
         replace hV := rowTurn hV hY q2 (by decide)
         have hR2 := fun q hq => keep_push (hR q hq).1 (hR q hq).2 q2 q3 (i + 1) cap7
         have hL2 := keep_push hL hA q2 q3 (i + 1) cap7
         replace hb := below_grown hb q2 hBV (fun z hz => (hY.lt z hz).1)
         replace hBV := Nat.le_trans hBV q2.size
         replace hY := q1
         clear q1 q2 q3 xc9 hR hL hA
         replace hS := HKS.out _ hb
         refine hK _ _ hS ?_
         clear hK
         try simp only [Act.put, zq1, zq2, zq3, zq4, zq5, zq6]
         have hx4 := Blk.below HX.out hb HBb.out
         have k0 := Blk.cell hx4 0; have k1 := Blk.cell hx4 1; have f0 := Blk.frozen hx4 0; have f1 := Blk.frozen hx4 1
         simp only [List.getElem?_toArray, List.getElem?_cons_zero, List.getElem?_cons_succ] at k0 k1
         have hY := hY
         have HE := Lib.hid (bkEnd HTK.out hx4 hV hR2 hL2 hY hb HBW.out HBb.out HF.out HW6.out)
         clear hx4 hV hR2 hL2 hY hb hBV hS
         refine anyY_h (i := 11) (by kernel_rfl) (by kernel_rfl) rfl rfl ?_
         intro K hK
         try simp only [zq1, zq2, zq3]
         go_simp
         refine hK _ _ ?_
         clear hK
         try simp only [Act.put, zq1, zq2, zq3, zq4, zq5, zq6]
         refine anyY_h (i := 12) (by kernel_rfl) (by kernel_rfl) rfl rfl ?_
         intro K hK
         try simp only [zq1, zq2, zq3]
         go_simp
         refine hK _ _ ?_
         clear hK
         try simp only [Act.put, zq1, zq2, zq3, zq4, zq5, zq6]
         refine anyY_last (i := 13) (by kernel_rfl) (by kernel_rfl) (by kernel_rfl) rfl rfl ?_
         try simp only [zq1, zq2, zq3]
         go_simp
         try apply_assumption
         clear k0 k1 f0 f1
         go_wp2_with fail
         exact ⟨⟨i + 1, by go_num, by omega, HE⟩, by simp [intOf]; omega⟩
        ·intro K hK
         try simp only [zq1, zq2, zq3]
         go_simp
         obtain ⟨V2, eV⟩ : ∃ W', V1.alloc (.cells #[.int .i64 (0 : Int)] 3) = W' := ⟨_, rfl⟩
         have hbn : Below V1.heap.size V1 V2 := by rw [<- eV]; exact (Below.refl _ _).alloc (Nat.le_refl _) _
         have xc9 : Blk V2 V1.heap.size 3 #[.int .i64 (0 : Int)] := by rw [<- eV]; exact Blk.new _ _ _
         rw [eV]
         clear eV
         replace hV := ownsRow_bel hV hbn
         replace hR := fun q hq => And.intro (ownsRow_bel (hR q hq).1 hbn) (hR q hq).2
         replace hY := ownsRow_bel hY hbn
         replace hL := ownsRow_bel hL hbn
         replace hb := hb.trans (hbn.mono hBV)
         replace hBV := Nat.le_trans hBV hbn.size
         replace xb := Blk.below xb hbn xb.lt
         obtain ⟨p2, hp2⟩ : ∃ p, p = V1.heap.size := ⟨_, rfl⟩
         rw [<- hp2] at xc9 ⊢
         clear hp2 hbn
         replace hS := HKS.out _ hb
         refine hK _ _ hS ?_
         clear hK
         try simp only [Act.put, zq1, zq2, zq3, zq4, zq5, zq6]
         refine anyY_g (i := 4) (by kernel_rfl) rfl rfl ?_
         intro K hK
         try simp only [zq1, zq2, zq3]
         refine wp_pushK rfl (.tmp 47) (.tmp 49) 24 22 rfl 1 24 _ Try.underlying24 info_row rfl (by omega) (by omega) B (.slice XA i xc) i vals (by rfl) hV p1 (by rfl) #[.slice LA n lc] rfl xb (by simp [Value.oneCell']) hi9 hBV ?_
         intro g9 cap9 V3 q1 q2 q3
         replace hR := fun q hq => And.intro (rowTurn (hR q hq).1 hV q2 (by decide)) (hR q hq).2
         replace hY := rowTurn hY hV q2 (by decide)
         replace hL := rowTurn hL hV q2 (by decide)
         replace xc9 := blkTurn xc9 hV q2 (by decide)
         replace hb := below_grown hb q2 hBV (fun z hz => (hV.lt z hz).1)
         replace hBV := Nat.le_trans hBV q2.size
         replace hV := q1
         clear q1 q2 q3 xb
         replace hS := HKS.out _ hb
         refine hK _ _ hS ?_
         clear hK
         try simp only [Act.put, zq1, zq2, zq3, zq4, zq5, zq6]
         refine tky (i := 10) (v := ?_) hS ?_ ?_
         rotate_left
         ·rintro w' ⟨s0', s1'⟩
          go_simp
          try with_reducible rfl
         try simp only [Act.put, zq1, zq2, zq3, zq4, zq5, zq6]
         refine anyY_g (i := 9) (by kernel_rfl) rfl rfl ?_
         intro K hK
         try simp only [zq1, zq2, zq3]
         refine wp_pushK rfl (.tmp 52) (.tmp 54) 22 3 rfl 1 8 _ Try.underlying22 info_int rfl (by omega) (by omega) B (.slice YA i yc) i _ (by rfl) hY p2 (by rfl) #[.int .i64 (0 : Int)] rfl xc9 (by simp [Value.oneCell']) hi9 hBV ?_
         intro g7 cap7 V4 q1 q2 q3
         replace hV := rowTurn hV hY q2 (by decide)
         have hR2 := fun q hq => keep_push (hR q hq).1 (hR q hq).2 q2 q3 (i + 1) cap7
         have hL2 := keep_push hL hA q2 q3 (i + 1) cap7
         replace hb := below_grown hb q2 hBV (fun z hz => (hY.lt z hz).1)
         replace hBV := Nat.le_trans hBV q2.size
         replace hY := q1
         clear q1 q2 q3 xc9 hR hL hA
         replace hS := HKS.out _ hb
         refine hK _ _ hS ?_
         clear hK
         try simp only [Act.put, zq1, zq2, zq3, zq4, zq5, zq6]
         have hx4 := Blk.below HX.out hb HBb.out
         have k0 := Blk.cell hx4 0; have k1 := Blk.cell hx4 1; have f0 := Blk.frozen hx4 0; have f1 := Blk.frozen hx4 1
         simp only [List.getElem?_toArray, List.getElem?_cons_zero, List.getElem?_cons_succ] at k0 k1
         have hY := hY
         have HE := Lib.hid (bkEnd HTK.out hx4 hV hR2 hL2 hY hb HBW.out HBb.out HF.out HW6.out)
         clear hx4 hV hR2 hL2 hY hb hBV hS
         refine anyY_h (i := 11) (by kernel_rfl) (by kernel_rfl) rfl rfl ?_
         intro K hK
         try simp only [zq1, zq2, zq3]
         go_simp
         refine hK _ _ ?_
         clear hK
         try simp only [Act.put, zq1, zq2, zq3, zq4, zq5, zq6]
         refine anyY_h (i := 12) (by kernel_rfl) (by kernel_rfl) rfl rfl ?_
         intro K hK
         try simp only [zq1, zq2, zq3]
         go_simp
         refine hK _ _ ?_
         clear hK
         try simp only [Act.put, zq1, zq2, zq3, zq4, zq5, zq6]
         refine anyY_last (i := 13) (by kernel_rfl) (by kernel_rfl) (by kernel_rfl) rfl rfl ?_
         try simp only [zq1, zq2, zq3]
         go_simp
         try apply_assumption
         clear k0 k1 f0 f1
         go_wp2_with fail
         exact ⟨⟨i + 1, by go_num, by omega, HE⟩, by simp [intOf]; omega⟩
       ·intro K hK
        try simp only [zq1, zq2, zq3]
        go_simp
        obtain ⟨V1, eV⟩ : ∃ W', V0.alloc (.cells #[.int .i64 (0 : Int)] 3) = W' := ⟨_, rfl⟩
        have hbn : Below V0.heap.size V0 V1 := by rw [<- eV]; exact (Below.refl _ _).alloc (Nat.le_refl _) _
        have xc9 : Blk V1 V0.heap.size 3 #[.int .i64 (0 : Int)] := by rw [<- eV]; exact Blk.new _ _ _
        rw [eV]
        clear eV
        replace hV := ownsRow_bel hV hbn
        replace hR := fun q hq => And.intro (ownsRow_bel (hR q hq).1 hbn) (hR q hq).2
        replace hY := ownsRow_bel hY hbn
        replace hL := ownsRow_bel hL hbn
        replace hb := hb.trans (hbn.mono hBV)
        replace hBV := Nat.le_trans hBV hbn.size
        obtain ⟨p2, hp2⟩ : ∃ p, p = V0.heap.size := ⟨_, rfl⟩
        rw [<- hp2] at xc9 ⊢
        clear hp2 hbn
        replace hS := HKS.out _ hb
        refine hK _ _ hS ?_
        clear hK
        try simp only [Act.put, zq1, zq2, zq3, zq4, zq5, zq6]
        refine anyY_g (i := 3) (by kernel_rfl) rfl rfl ?_
        intro K hK
        try simp only [zq1, zq2, zq3]
        go_simp
        obtain ⟨V2, eV⟩ : ∃ W', V1.alloc (.cells #[.slice LA n lc] 22) = W' := ⟨_, rfl⟩
        have hbn : Below V1.heap.size V1 V2 := by rw [<- eV]; exact (Below.refl _ _).alloc (Nat.le_refl _) _
        have xb : Blk V2 V1.heap.size 22 #[.slice LA n lc] := by rw [<- eV]; exact Blk.new _ _ _
        rw [eV]
        clear eV
        replace hV := ownsRow_bel hV hbn
        replace hR := fun q hq => And.intro (ownsRow_bel (hR q hq).1 hbn) (hR q hq).2
        replace hY := ownsRow_bel hY hbn
        replace hL := ownsRow_bel hL hbn
        replace hb := hb.trans (hbn.mono hBV)
        replace hBV := Nat.le_trans hBV hbn.size
        replace xc9 := Blk.below xc9 hbn xc9.lt
        obtain ⟨p1, hp1⟩ : ∃ p, p = V1.heap.size := ⟨_, rfl⟩
        rw [<- hp1] at xb ⊢
        clear hp1 hbn
        replace hS := HKS.out _ hb
        refine hK _ _ hS ?_
        clear hK
        try simp only [Act.put, zq1, zq2, zq3, zq4, zq5, zq6]
        refine anyY_g (i := 4) (by kernel_rfl) rfl rfl ?_
        intro K hK
        try simp only [zq1, zq2, zq3]
        refine wp_pushK rfl (.tmp 47) (.tmp 49) 24 22 rfl 1 24 _ Try.underlying24 info_row rfl (by omega) (by omega) B (.slice XA i xc) i vals (by rfl) hV p1 (by rfl) #[.slice LA n lc] rfl xb (by simp [Value.oneCell']) hi9 hBV ?_
        intro g9 cap9 V3 q1 q2 q3
        replace hR := fun q hq => And.intro (rowTurn (hR q hq).1 hV q2 (by decide)) (hR q hq).2
        replace hY := rowTurn hY hV q2 (by decide)
        replace hL := rowTurn hL hV q2 (by decide)
        replace xc9 := blkTurn xc9 hV q2 (by decide)
        replace hb := below_grown hb q2 hBV (fun z hz => (hV.lt z hz).1)
        replace hBV := Nat.le_trans hBV q2.size
        replace hV := q1
        clear q1 q2 q3 xb
        replace hS := HKS.out _ hb
        refine hK _ _ hS ?_
        clear hK
        try simp only [Act.put, zq1, zq2, zq3, zq4, zq5, zq6]
        refine tky (i := 10) (v := ?_) hS ?_ ?_
        rotate_left
        ·rintro w' ⟨s0', s1'⟩
         go_simp
         try with_reducible rfl
        try simp only [Act.put, zq1, zq2, zq3, zq4, zq5, zq6]
        refine anyY_g (i := 9) (by kernel_rfl) rfl rfl ?_
        intro K hK
        try simp only [zq1, zq2, zq3]
        refine wp_pushK rfl (.tmp 52) (.tmp 54) 22 3 rfl 1 8 _ Try.underlying22 info_int rfl (by omega) (by omega) B (.slice YA i yc) i _ (by rfl) hY p2 (by rfl) #[.int .i64 (0 : Int)] rfl xc9 (by simp [Value.oneCell']) hi9 hBV ?_
        intro g7 cap7 V4 q1 q2 q3
        replace hV := rowTurn hV hY q2 (by decide)
        have hR2 := fun q hq => keep_push (hR q hq).1 (hR q hq).2 q2 q3 (i + 1) cap7
        have hL2 := keep_push hL hA q2 q3 (i + 1) cap7
        replace hb := below_grown hb q2 hBV (fun z hz => (hY.lt z hz).1)
        replace hBV := Nat.le_trans hBV q2.size
        replace hY := q1
        clear q1 q2 q3 xc9 hR hL hA
        replace hS := HKS.out _ hb
        refine hK _ _ hS ?_
        clear hK
        try simp only [Act.put, zq1, zq2, zq3, zq4, zq5, zq6]
        have hx4 := Blk.below HX.out hb HBb.out
        have k0 := Blk.cell hx4 0; have k1 := Blk.cell hx4 1; have f0 := Blk.frozen hx4 0; have f1 := Blk.frozen hx4 1
        simp only [List.getElem?_toArray, List.getElem?_cons_zero, List.getElem?_cons_succ] at k0 k1
        have hY := hY
        have HE := Lib.hid (bkEnd HTK.out hx4 hV hR2 hL2 hY hb HBW.out HBb.out HF.out HW6.out)
        clear hx4 hV hR2 hL2 hY hb hBV hS
        refine anyY_h (i := 11) (by kernel_rfl) (by kernel_rfl) rfl rfl ?_
        intro K hK
        try simp only [zq1, zq2, zq3]
        go_simp
        refine hK _ _ ?_
        clear hK
        try simp only [Act.put, zq1, zq2, zq3, zq4, zq5, zq6]
        refine anyY_h (i := 12) (by kernel_rfl) (by kernel_rfl) rfl rfl ?_
        intro K hK
        try simp only [zq1, zq2, zq3]
        go_simp
        refine hK _ _ ?_
        clear hK
        try simp only [Act.put, zq1, zq2, zq3, zq4, zq5, zq6]
        refine anyY_last (i := 13) (by kernel_rfl) (by kernel_rfl) (by kernel_rfl) rfl rfl ?_
        try simp only [zq1, zq2, zq3]
        go_simp
        try apply_assumption
        clear k0 k1 f0 f1
        go_wp2_with fail
        exact ⟨⟨i + 1, by go_num, by omega, HE⟩, by simp [intOf]; omega⟩
   ·obtain rfl : k = i := by omega
    have hf5 : Fr (fun q => q = b) W6 wr := by obtain ⟨XA, xc, YA, yc, vals, hx5, hv5, hr5, hy5, hf5⟩ := HJ.out; exact hf5
    replace BB := Lib.hid (BB.out.trans (hf5.below (B := w.heap.size) (by have := BB.out.size; omega) (fun q hq e => by have := HE1.out; have := HBS.out; omega)))
    obtain ⟨XA, xc, YA, yc, hx, hN, hO, l1, l2, l3, l4⟩ := HJ.out.mach (cycT_len k n) (fun q hq => by rw [cycT_at hq, List.length_replicate]) (cycO_len k z)
    have RN := Lib.hid hN; have RO := Lib.hid hO
    have Xb := Lib.hid hx
    have c0 := hx.cell 0; have c1 := hx.cell 1
    simp only [List.getElem?_toArray, List.getElem?_cons_zero, List.getElem?_cons_succ] at c0 c1
    clear hN hO hx HJ hf5
    go_wp2_with fail
    clear c0 c1
    refine (back_mach RN.out (cycT_len k n) (cyc_rect (by omega)) RO.out (by omega) (by omega) (fun x => by have := cycO_le k z x; omega)).mono ?_
    rintro e w4 ⟨NC, ne, OC, oe, gm, f, r, rfl, hM, hQ, hQO, hNM, l9, l10, l11, l12, hb⟩
    have MM := Lib.hid (hM)
    have RQ := Lib.hid (hQ)
    have RQO := Lib.hid (hQO)
    have RM := Lib.hid (hNM)
    replace RN := Lib.hid (RN.out.below hb)
    replace RO := Lib.hid (RO.out.below hb)
    replace BB := Lib.hid (BB.out.trans (hb.mono BB.out.size))
    replace Xb := Lib.hid (Blk.below Xb.out hb Xb.out.lt)
    have hcan := cyc_can (k := k) (n := n) (z := z) (by omega) (by omega) hzk (E := EF f) (fun x y hx hy => by
     rw [<- MM.out.kern x y (by rw [cycT_len]; exact hx) (by rw [cycT_len]; exact hy)]
     simp [EF])
    have eq2 := hcan.quo (EF.eqv f)
    have erep := hcan.rep
    have er : r = k := by rw [<- MM.out.len, erep, List.length_range]
    have eqo : quoO (cycT k n) f (cycO k z) = cycO k z := by
     unfold quoO
     rw [erep]
     exact range_getD _ 0 (cycO_len k z)
    have enz : (rowZ k (nameN (cycT k n) (EF f))).getD (k - 1) 0 = ((k - 1 : Nat) : Int) := by rw [rowZ_get _ (by omega), hcan.name (EF.eqv f) (by omega)]
    rw [eq2] at RQ
    rw [eqo] at RQO
    have er2 : k = r := er.symm
    clear hcan eq2 erep er eqo hM hQ hQO hNM hb MM
    subst er2
    obtain ⟨b14, hb14⟩ : ∃ b, b = w4.heap.size := ⟨_, rfl⟩
    obtain ⟨V14, hV14⟩ : ∃ V, w4.alloc (.cells #[.slice NC k ne, .slice OC k oe] 26) = V := ⟨_, rfl⟩
    have hb' : Below w4.heap.size w4 V14 := by rw [<- hV14]; exact (Below.refl _ _).alloc (Nat.le_refl _) _
    have x' : Blk V14 b14 26 #[.slice NC k ne, .slice OC k oe] := by rw [<- hV14, hb14]; exact Blk.new _ _ _
    replace RN := Lib.hid (RN.out.below hb')
    replace RO := Lib.hid (RO.out.below hb')
    replace RQ := Lib.hid (RQ.out.below hb')
    replace RQO := Lib.hid (RQO.out.below hb')
    replace RM := Lib.hid (RM.out.below hb')
    replace Xb := Lib.hid (Blk.below Xb.out hb' Xb.out.lt)
    replace BB := Lib.hid (BB.out.trans (hb'.mono BB.out.size))
    have Xb14 := Lib.hid x'
    have HV14 := Lib.hid hV14; have Eb14 := Lib.hid hb14
    clear hb' x' hV14 hb14
    have c0 := Xb.out.cell 0; have c1 := Xb.out.cell 1; have c2 := Xb14.out.cell 0; have c3 := Xb14.out.cell 1
    simp only [List.getElem?_toArray, List.getElem?_cons_zero, List.getElem?_cons_succ] at c0 c1 c2 c3
    rw [<- HV14.out] at c0 c1 c2 c3
    have ENZ := Lib.hid enz
    clear enz
    go_wp2_with fail
    rw [HV14.out]
    refine (bsame_true RN.out RQ.out RO.out RQO.out (cycT_len k n)).mono ?_
    rintro e w8 ⟨rfl, hb⟩
    replace RM := Lib.hid (RM.out.below hb)
    replace BB := Lib.hid (BB.out.trans (hb.mono BB.out.size))
    have hkm : k - 1 < k := by omega
    obtain ⟨g1, o1, e1, -, c9⟩ := RM.out.at (k - 1) hkm
    simp only [sl, Option.some.injEq, Addr.mk.injEq, and_true] at e1
    obtain ⟨rfl, rfl⟩ := e1
    rw [ENZ.out, Nat.zero_add] at c9
    have m2 : (k : Int) - 1 < (k : Int) := by omega
    have m3 : 0 <= (k : Int) - 1 := by omega
    have m5 : (1 : Int) <= (k : Int) := by omega
    have m4 : ((k : Int) - 1).toNat = k - 1 := by omega
    have mk1 : (((k - 1 : Nat) : Int)) = (k : Int) - 1 := by omega
    rw [mk1] at c9
    have HMK := Lib.hid mk1
    clear hb mk1 hkm
    go_wp2_with fail
    go_ret
    exact ⟨by simp, BB.out⟩
end Go.Proofs.Ytdcokkgdahbinaa
