/- The law text's Back. -/
import Derived.Test.YtacgakkcpmhgmaaVMiniFa
set_option linter.unusedVariables false
set_option linter.unusedSimpArgs false
set_option maxRecDepth 100000
set_option maxHeartbeats 8000000
namespace Go.Proofs.Ytacgakkcpmhgmaa
open Go Go.RowKit Go.Proofs
section
variable {V V' : World} {B B' : Nat} {t t' : TypeId} {s s' c c' g : Nat} {x u : Value} {ys zs : List Value}
theorem rowTurn (h : V.ownsRow B t s x c ys) (hu : V.ownsRow B' t' s' u c' zs) (hg : V.grownBy V' u.ownBlock) (hne : t ≠ t') : V'.ownsRow B t s x c ys :=
 World.ownsRow.kept h hg (by
  cases hx : x.ownBlock with
  | none => exact .inl rfl
  | some z => exact .inr (fun q => rows_ne h hu hne z hx q.symm))
theorem blkTurn {p : Nat} {cs : Array Value} (h : Blk V p t cs) (hu : V.ownsRow B' t' s' u c' zs) (hg : V.grownBy V' u.ownBlock) (hne : t ≠ t') : Blk V' p t cs :=
 (hg.block p h.lt (fun e => blk_ne h hu hne e.symm)).trans h
theorem keep_push (h : V.ownsRow B t s x c ys) (ha : Apart u x) (hg : V.grownBy V' u.ownBlock) (h3 : u.ownBlock = some g \/ g = V.heap.size) (m cap : Nat) : V'.ownsRow B t s x c ys /\ Apart (sl g m cap) x := by
 constructor
 ·refine World.ownsRow.kept h hg ?_
  cases hu' : x.ownBlock with
  | none => exact .inl rfl
  | some z =>
    refine .inr (fun q => ?_)
    rcases ha with s | s | s
    ·rw [s] at q; cases q
    ·rw [s] at hu'; cases hu'
    ·exact s (by rw [<- q, hu'])
 ·cases hu' : x.ownBlock with
  | none => exact .inr (.inl hu')
  | some z =>
    refine .inr (.inr (fun q => ?_))
    rw [hu'] at q
    have hz : z = g := by simpa [Value.ownBlock, eq_comm] using q
    subst hz
    rcases h3 with r | r
    ·rcases ha with s | s | s
     ·rw [s] at r; cases r
     ·rw [s] at hu'; cases hu'
     ·exact s (by rw [r, hu'])
    ·have := (h.lt z hu').2; omega
end
theorem ownsRow_any {w : World} {B B' : Nat} {t : TypeId} {s n : Nat} {u : Value} {xs : List Value} (h : w.ownsRow B t s u n xs) (hB : B' <= B) : w.ownsRow B' t s u n xs := by
 obtain ⟨h1, h2⟩ := h
 refine ⟨h1, ?_⟩
 rcases h2 with h2 | ⟨g, cap, cur, rfl, hg, r⟩
 ·exact .inl h2
 ·exact .inr ⟨g, cap, cur, rfl, by omega, r⟩
theorem wrapN_in (z : Nat) (h : z < 1099511627776) : wrap64 (z : Int) = z := by unfold wrap64; omega
theorem lawO_take (ns : List Int) {k n i : Nat} (h : i < k) : (lawO ns k n).take (i + 1) = (lawO ns k n).take i ++ [lawM ns i / k ^ n % 3] := by
 rw [List.take_add_one, List.getElem?_eq_getElem (by rw [lawO_len]; exact h)]
 simp [lawO]
def LawAt (w6 W : World) (B b : Nat) (ns : List Int) (k n i : Nat) : Prop :=
 ∃ XA xc YA yc vals, Blk W b 27 #[.slice XA i xc, .slice YA i yc] /\ W.ownsRow B 22 1 (.slice XA i xc) i vals /\ (∀ q, q < i -> Own W B (vals.getD q undef) n (intsN ((lawT ns k n).getD q [])) /\ Apart (.slice YA i yc) (vals.getD q undef)) /\ Own W B (.slice YA i yc) i (intsN ((lawO ns k n).take i)) /\ Fr (fun q => q = b) w6 W
theorem lawEnd {w6 wr V : World} {B b i g1 c1 g2 c2 k n : Nat} {ns : List Int} {x y u : Value} {vals : List Value} (hik : i < k)
  (hx : Blk V b 27 #[x, y]) (hv : V.ownsRow B 22 1 (sl g1 (i + 1) c1) (i + 1) (vals ++ #[u].toList)) (hr : ∀ q, q < i -> Own V B (vals.getD q undef) n (intsN ((lawT ns k n).getD q [])) /\ Apart (sl g2 (i + 1) c2) (vals.getD q undef))
  (hu : Own V B u n (intsN ((lawT ns k n).getD i [])) /\ Apart (sl g2 (i + 1) c2) u) (hy : V.ownsRow B 3 1 (sl g2 (i + 1) c2) (i + 1) ((intsN ((lawO ns k n).take i)).map (Value.int .i64) ++ #[Value.int .i64 ((lawM ns i / k ^ n % 3 : Nat) : Int)].toList))
  (hb : Below B wr V) (hB : B <= wr.heap.size) (hbb : b < B) (hf : Fr (fun q => q = b) w6 wr) (hw6 : w6.heap.size = B) :
  LawAt w6 ((V.setCell ⟨b, 0, none⟩ (sl g1 (i + 1) c1)).setCell ⟨b, 1, none⟩ (sl g2 (i + 1) c2)) B b ns k n (i + 1) := by
  have hfr : Fr (fun q => q = b) V ((V.setCell ⟨b, 0, none⟩ (sl g1 (i + 1) c1)).setCell ⟨b, 1, none⟩ (sl g2 (i + 1) c2)) := ((Fr.refl (fun q => q = b) V).set_ (p := ⟨b, 0, none⟩) (.inl rfl) _).set_ (p := ⟨b, 1, none⟩) (.inl rfl) _
  have hlen : vals.length = i := by have := hv.1; simp at this; omega
  have kp : ∀ {t : TypeId} {s c : Nat} {z : Value} {ys : List Value}, V.ownsRow B t s z c ys -> ((V.setCell ⟨b, 0, none⟩ (sl g1 (i + 1) c1)).setCell ⟨b, 1, none⟩ (sl g2 (i + 1) c2)).ownsRow B t s z c ys := fun {t s c z ys} ho => rowFr ho hfr (fun q hq e => by have := (ho.lt q hq).1; omega)
  have hy2 : Own V B (sl g2 (i + 1) c2) (i + 1) (intsN ((lawO ns k n).take (i + 1))) := by
   rw [lawO_take ns hik]
   have e : (intsN ((lawO ns k n).take i ++ [lawM ns i / k ^ n % 3])).map (Value.int .i64) = (intsN ((lawO ns k n).take i)).map (Value.int .i64) ++ #[Value.int .i64 ((lawM ns i / k ^ n % 3 : Nat) : Int)].toList := by simp [intsN]
   unfold Own
   rw [e]
   exact hy
  refine ⟨_, _, _, _, vals ++ [u], ?_, kp hv, fun q hq => ?_, kp hy2, ?_⟩
  ·have := (hx.set_ 0 (sl g1 (i + 1) c1)).set_ 1 (sl g2 (i + 1) c2)
   simpa using this
  ·rcases Nat.lt_or_ge q i with r | r
   ·have e1 : (vals ++ [u]).getD q undef = vals.getD q undef := by simp [List.getD, List.getElem?_append_left (show q < vals.length by omega)]
    rw [e1]
    exact ⟨kp (hr q r).1, (hr q r).2⟩
   ·obtain rfl : q = i := by omega
    have e1 : (vals ++ [u]).getD q undef = u := by simp [List.getD, <- hlen]
    rw [e1]
    exact ⟨kp hu.1, hu.2⟩
  ·have h1 : Fr (fun q => B <= q) wr V := ⟨hb.os, hb.tape, hb.output, hb.size, fun q hq hx => hb.block q (by omega)⟩
   exact (hf.then_ h1 (fun q hq e => by omega)).trans hfr
theorem lawBack_ap {w : World} {NSA : Option Addr} {nl nsc k n : Nat} {ns : List Int} (hv : ReadsI w (.slice NSA nl nsc) nl ns) (size letters : Int) (hk : (k : Int) = 1 + size % 9) (hn : (n : Int) = 1 + letters % 3) :
  Calls Try.prog 42 #[.int .i64 size, .int .i64 letters, .slice NSA nl nsc] w fun e w' => ∃ vn vo vals, e = .returned (.agg #[vn, vo]) /\ w'.ownsRow w.heap.size 22 1 vn k vals /\ (∀ q, q < k -> Own w' w.heap.size (vals.getD q undef) n (intsN ((lawT ns k n).getD q [])) /\ Apart vo (vals.getD q undef)) /\ Own w' w.heap.size vo k (intsN (lawO ns k n)) /\ Below w.heap.size w w' := by
  have hw9 := fun W => within_any size 9 (by decide) (by decide) W
  have hw3 := fun W => within_any letters 3 (by decide) (by decide) W
  have HW9 := Lib.hid hw9; have HW3 := Lib.hid hw3
  clear hw9 hw3
  have k1 : 1 <= (k : Int) := by omega
  have k9 : (k : Int) <= 9 := by omega
  have n1 : 1 <= (n : Int) := by omega
  have n3 : (n : Int) <= 3 := by omega
  have kz : ¬ (k : Int) = 0 := by omega
  have HK := Lib.hid hk; have HN := Lib.hid hn
  clear hk hn
  go_enter Try.func42, Try.ntmps42
  go_wp2_with fail
  refine (HW9.out _).mono ?_
  rintro e w5 ⟨rfl, rfl⟩
  go_wp2_with fail
  refine (HW3.out _).mono ?_
  rintro e w5 ⟨rfl, rfl⟩
  obtain ⟨W6, hW6⟩ : ∃ W, (w.alloc (.cells #[.slice none 0 0, .slice none 0 0] 27)).alloc (.cells #[.slice none 0 0, .slice none 0 0] 27) = W := ⟨_, rfl⟩
  have hb6 : Below w.heap.size w W6 := by rw [<- hW6]; exact ((Below.refl _ _).alloc (Nat.le_refl _) _).alloc (by simp) _
  have hx0 : Blk W6 w.heap.size 27 #[.slice none 0 0, .slice none 0 0] := by rw [<- hW6]; exact (Blk.new _ _ _).alloc _
  have hx6 : Blk W6 (w.heap.size + 1) 27 #[.slice none 0 0, .slice none 0 0] := by
   rw [<- hW6]
   have := Blk.new (w.alloc (.cells #[.slice none 0 0, .slice none 0 0] 27)) 27 #[.slice none 0 0, .slice none 0 0]
   rw [World.size_alloc] at this
   exact this
  obtain ⟨b0, hb0⟩ : ∃ b, b = w.heap.size := ⟨_, rfl⟩
  obtain ⟨b, hb⟩ : ∃ b, b = w.heap.size + 1 := ⟨_, rfl⟩
  rw [<- hb0] at hx0
  rw [<- hb] at hx6
  obtain ⟨B, hB⟩ : ∃ B, W6.heap.size = B := ⟨_, rfl⟩
  have hbB : b < B := by rw [<- hB]; exact hx6.lt
  have h0B : w.heap.size <= B := by rw [<- hB]; exact hb6.size
  have hst : LawAt W6 W6 B b ns k n 0 := ⟨none, 0, none, 0, [], hx6, World.ownsRow_nil _ _ _ _, fun q hq => absurd hq (Nat.not_lt_zero q), Own.nil _ _, Fr.refl _ _⟩
  have HST := Lib.hid hst; have HWW := Lib.hid hW6; have HB6 := Lib.hid hb6; have HX0 := Lib.hid hx0; have HE0 := Lib.hid hb0; have HE1 := Lib.hid hb; have HW6 := Lib.hid hB; have HBb := Lib.hid hbB; have HVN := Lib.hid hv
  have hb01 : ¬ b0 = b := by omega
  have hwb : w.heap.size <= b0 := Nat.le_of_eq hb0.symm
  obtain ⟨-, NS', nc', e, hnc, hnc2, -, -⟩ := id hv
  simp only [Value.slice.injEq, true_and] at e
  obtain ⟨rfl, rfl⟩ := e
  unfold maxLen at hnc2
  clear hst hW6 hb6 hx0 hx6 hb0 hb hB hv HW3
  go_wp2_with fail
  rw [HWW.out, <- HE1.out, <- HE0.out, <- HK.out, <- HN.out]
  go_loopw [10] (fun vi wr => ∃ i : Nat, vi = .int .i64 (i : Int) /\ i <= k /\ Hid (LawAt W6 wr B b ns k n i)) (fun vi _ => k - (intOf vi).toNat)
  case atStart => exact ⟨0, rfl, Nat.zero_le _, HST⟩
  case round =>
   clear HST
   obtain ⟨i, rfl, hi, HJ⟩ := hrel
   obtain ⟨XA, xc, YA, yc, vals, hx5, hv5, hr5, hy5, hf5⟩ := HJ.out
   have i0 : (0 : Int) <= (i : Int) := Int.natCast_nonneg _
   by_cases hlt : i < k
   ·have i1 : (i : Int) < (k : Int) := by omega
    have ti : decide (i < k) = true := by simpa using hlt
    have hB5 : B <= wr.heap.size := by rw [<- HW6.out]; exact hf5.size
    obtain ⟨M, hM⟩ : ∃ M, lawM ns i = M := ⟨_, rfl⟩
    have HX5 := Lib.hid hx5; have HV5 := Lib.hid hv5; have HR5 := Lib.hid hr5; have HY5 := Lib.hid hy5; have HF5 := Lib.hid hf5; have HBW5 := Lib.hid hB5; have HME := Lib.hid hM
    obtain ⟨W5, hW5⟩ : ∃ W5, W5 = wr := ⟨_, rfl⟩
    subst hW5
    clear hx5 hv5 hr5 hy5 hf5 hB5 hM HJ
    by_cases hin : i < nl
    ·have hnlen : ns.length = nl := HVN.out.1
     obtain ⟨gn, on, eN, -, cz⟩ := HVN.out.at i hin
     subst eN
     have cz5 := bel_m (HB6.out.trans ((Fr.below HF5.out (by have := HB6.out.size; omega) (fun q hq e => by have := HE1.out; omega)))) cz
     obtain ⟨z, hz⟩ : ∃ z, ns.getD i 0 = z := ⟨_, rfl⟩
     rw [hz] at cz5
     have HMV : Hid ((M : Int) = z % 1099511627776) := Lib.hid (by
      have h2 := Int.emod_nonneg z (show (1099511627776 : Int) ≠ 0 by decide)
      rw [<- HME.out]; unfold lawM; rw [if_pos (by omega), hz]; omega)
     have in1 : (i : Int) < (nl : Int) := by omega
     have in2 : decide (i < nl) = true := by simpa using hin
     have HW40 := Lib.hid (within_any z 1099511627776 (by decide) (by decide) W5)
     clear hz cz hnlen
     go_wp2_with fail
     refine HW40.out.mono ?_
     rintro e w5 ⟨rfl, rfl⟩
     go_wp2_with fail
     go_loopw [11, 12, 13] (fun v11 v12 v13 wr => ∃ j : Nat, v13 = .int .i64 (j : Int) /\ j <= n /\ v11 = .int .i64 ((M / k ^ j : Nat) : Int) /\ Hid (Own wr W5.heap.size v12 j (intsN ((List.range j).map fun q => M / k ^ q % k))) /\ Hid (Below W5.heap.size W5 wr)) (fun _ _ v13 _ => n - (intOf v13).toNat)
     case atStart => exact ⟨0, rfl, Nat.zero_le _, by rw [Nat.pow_zero, Nat.div_one, HMV.out], Lib.hid (Own.nil _ _), Lib.hid (Below.refl _ _)⟩
     case round =>
      obtain ⟨j, rfl, hj, rfl, HL, HB5⟩ := hrel
      have j0 : (0 : Int) <= (j : Int) := Int.natCast_nonneg _
      obtain ⟨v, hv⟩ : ∃ v, M / k ^ j = v := ⟨_, rfl⟩
      rw [hv]
      have HVD := Lib.hid hv
      clear hv
      obtain ⟨-, LA, lc, hvl, hlc, hlc2, -, -⟩ := id HL.out.readsI
      subst hvl
      unfold maxLen at hlc2
      have v0 : (0 : Int) <= (v : Int) := Int.natCast_nonneg _
      by_cases hlj : j < n
      ·have j1 : (j : Int) < (n : Int) := by omega
       have tj : decide (j < n) = true := by simpa using hlj
       have htm : ((v : Nat) : Int).tmod (k : Int) = ((v % k : Nat) : Int) := rfl
       have htd : ((v : Nat) : Int).tdiv (k : Int) = ((v / k : Nat) : Int) := rfl
       have hM9 : M < 1099511627776 := by rw [<- HME.out]; exact lawM_lt ns (by omega)
       have hv9 : v / k < 1099511627776 := Nat.lt_of_le_of_lt (Nat.div_le_self v k) (by rw [<- HVD.out]; exact Nat.lt_of_le_of_lt (Nat.div_le_self M _) hM9)
       have hwr : wrap64 ((v : Int) / (k : Int)) = ((v / k : Nat) : Int) := by
        rw [<- Int.natCast_ediv]
        generalize v / k = z at hv9 ⊢
        exact wrapN_in z hv9
       have HWR := Lib.hid hwr
       clear hwr hM9 hv9
       have hbs := HB5.out.size
       have hj9 : j <= 1000000000 := by omega
       go_wp2_with (at_builtin; refine wpList_push rfl (.tmp 41) (.tmp 45) rfl W5.heap.size wr (.slice LA j lc) j (intsN ((List.range j).map fun q => M / k ^ q % k)) ((v % k : Nat) : Int) (by rfl) HL.out (by rfl) hj9 hbs ?_; intro g9 cap9 w9 hp9; have HP := Lib.hid hp9; clear hp9)
       refine ⟨⟨j + 1, by go_num, by omega, by rw [Nat.pow_succ, <- Nat.div_div_eq_div_mul, HVD.out]; first | done | rfl | rw [HWR.out], Lib.hid ?_, Lib.hid (HP.out.below HB5.out (Nat.le_refl _) hbs)⟩, by simp [intOf]; omega⟩
       have e : intsN ((List.range (j + 1)).map fun q => M / k ^ q % k) = intsN ((List.range j).map fun q => M / k ^ q % k) ++ [((v % k : Nat) : Int)] := by rw [List.range_succ, List.map_append, <- HVD.out]; simp [intsN]
       rw [e]
       exact HP.out.own
      ·obtain rfl : j = n := by omega
       have hbw5 : Below B W5 wr := HB5.out.mono HBW5.out
       have HTY : Hid (((v : Nat) : Int).tmod 3 = ((lawM ns i / k ^ j % 3 : Nat) : Int)) := Lib.hid (by rw [HME.out, HVD.out]; rfl)
       have HX := Lib.hid (Blk.below HX5.out hbw5 HBb.out); have HF := Lib.hid (HF5.out.then_ (Fr.of_below (X := fun _ => False) HB5.out) (fun _ _ e => e.elim)); have HBW := Lib.hid (Nat.le_trans HBW5.out HB5.out.size)
       have HV0 := Lib.hid (ownsRow_bel HV5.out HB5.out); have HY0 := Lib.hid (HY5.out.below_top HB5.out)
       have HR0 := Lib.hid (fun q (hq : q < i) => And.intro ((HR5.out q hq).1.below_top HB5.out) (HR5.out q hq).2)
       have HA0 : Hid (Apart (.slice YA i yc) (.slice LA j lc)) := Lib.hid (by
        cases hz : (Value.slice YA i yc).ownBlock with
        | none => exact .inl hz
        | some z =>
          refine .inr (.inr (fun e => ?_))
          rw [hz] at e
          have h1 := (HY5.out.lt z hz).2
          have h2 := (HL.out.lt z e.symm).1
          omega)
       have HL0 : Hid (Own wr B (.slice LA j lc) j (intsN ((lawT ns k j).getD i []))) := Lib.hid (by
        rw [lawT_at ns hlt, HME.out]
        exact HL.out.more HBW5.out)
       have HKS : Hid (∀ W : World, Below B wr W -> (fun W : World => W.cell? ⟨b, 0, none⟩ = some (.slice XA i xc) /\ W.cell? ⟨b, 1, none⟩ = some (.slice YA i yc)) W) := Lib.hid (fun W hW => by
        have y0 := (Blk.below HX.out hW HBb.out).cell 0
        have y1 := (Blk.below HX.out hW HBb.out).cell 1
        exact ⟨by simpa using y0, by simpa using y1⟩)
       have hi9 : i <= 1000000 := by omega
       clear HL HB5 hbw5 HV5 HY5 HR5 HX5 HF5 HBW5
       go_wp2_with fail
       refine region_y 12 (fun W : World => W.cell? ⟨b, 0, none⟩ = some (.slice XA i xc) /\ W.cell? ⟨b, 1, none⟩ = some (.slice YA i yc)) (by kernel_rfl) ?_
       have hb : Below B wr wr.drew := (Below.refl _ _).drew
       have hbn : Below wr.heap.size wr wr.drew := (Below.refl _ _).drew
       have hS := HKS.out _ hb
       have hV := ownsRow_bel HV0.out hbn
       have hR := fun q hq => And.intro ((HR0.out q hq).1.below_top hbn) (HR0.out q hq).2
       have hY := HY0.out.below_top hbn
       have hL := HL0.out.below_top hbn
       have hA := HA0.out
       have hBV : B <= wr.drew.heap.size := Nat.le_trans HBW.out hb.size
       clear hbn
       generalize wr.drew = V0 at *
       refine tky (i := 0) (v := ?_) hS ?_ ?_
       rotate_left
       ·rintro w' ⟨s0', s1'⟩
        go_simp
        try with_reducible rfl
       try simp only [Act.put, zq1, zq2, zq3, zq4, zq5, zq6]
       refine tky (i := 1) (v := ?_) hS ?_ ?_
       rotate_left
       ·rintro w' ⟨s0', s1'⟩
        go_simp
        try with_reducible rfl
       try simp only [Act.put, zq1, zq2, zq3, zq4, zq5, zq6]
       refine tky0 (i := 2) (v := ?_) hS ?_ ?_
       rotate_left
       ·rintro w' -
        go_simp
        try with_reducible rfl
       try simp only [Act.put, zq1, zq2, zq3, zq4, zq5, zq6]
       refine tky (i := 5) (v := ?_) hS ?_ ?_
       rotate_left
       ·rintro w' ⟨s0', s1'⟩
        go_simp
        try with_reducible rfl
       try simp only [Act.put, zq1, zq2, zq3, zq4, zq5, zq6]
       refine tky (i := 6) (v := ?_) hS ?_ ?_
       rotate_left
       ·rintro w' ⟨s0', s1'⟩
        go_simp
        try with_reducible rfl
       try simp only [Act.put, zq1, zq2, zq3, zq4, zq5, zq6]
       refine tkyg [10, 9, 8] (i := 7) (v := ?_) hS ?_ ?_
       rotate_left
       ·rintro w' ⟨s0', s1'⟩
        go_simp
        try with_reducible rfl
       try simp only [Act.put, zq1, zq2, zq3, zq4, zq5, zq6]
       refine tkyg [10, 9] (i := 8) (v := ?_) hS ?_ ?_
       rotate_left
       ·rintro w' ⟨s0', s1'⟩
        go_simp
        try with_reducible rfl
       try simp only [Act.put, zq1, zq2, zq3, zq4, zq5, zq6]
       refine anyY_2 (i := 3) (j := 9) (by kernel_rfl) rfl rfl rfl rfl ?_ ?_
       ·intro K hK
        try simp only [zq1, zq2, zq3]
        go_simp
        obtain ⟨V1, eV⟩ : ∃ W', V0.alloc (.cells #[.slice LA j lc] 22) = W' := ⟨_, rfl⟩
        have hbn : Below V0.heap.size V0 V1 := by rw [<- eV]; exact (Below.refl _ _).alloc (Nat.le_refl _) _
        have xb : Blk V1 V0.heap.size 22 #[.slice LA j lc] := by rw [<- eV]; exact Blk.new _ _ _
        rw [eV]
        clear eV
        replace hV := ownsRow_bel hV hbn
        replace hR := fun q hq => And.intro (ownsRow_bel (hR q hq).1 hbn) (hR q hq).2
        replace hY := ownsRow_bel hY hbn
        replace hL := ownsRow_bel hL hbn
        replace hb := hb.trans (hbn.mono hBV)
        replace hBV := Nat.le_trans hBV hbn.size
        obtain ⟨p1, hp1⟩ : ∃ p, p = V0.heap.size := ⟨_, rfl⟩
        rw [<- hp1] at xb ⊢
        clear hp1 hbn
        replace hS := HKS.out _ hb
        refine hK _ _ hS ?_
        clear hK
        try simp only [Act.put, zq1, zq2, zq3, zq4, zq5, zq6]
        refine anyY_2 (i := 4) (j := 9) (by kernel_rfl) rfl rfl rfl rfl ?_ ?_
        ·intro K hK
         try simp only [zq1, zq2, zq3]
         refine wp_pushK rfl (.tmp 51) (.tmp 53) 25 22 rfl 1 24 _ Try.underlying25 info_row rfl (by omega) (by omega) B (.slice XA i xc) i vals (by rfl) hV p1 (by rfl) #[.slice LA j lc] rfl xb (by simp [Value.oneCell']) hi9 hBV ?_
         intro g9 cap9 V2 q1 q2 q3
         replace hR := fun q hq => And.intro (rowTurn (hR q hq).1 hV q2 (by decide)) (hR q hq).2
         replace hY := rowTurn hY hV q2 (by decide)
         replace hL := rowTurn hL hV q2 (by decide)
         replace hb := below_grown hb q2 hBV (fun z hz => (hV.lt z hz).1)
         replace hBV := Nat.le_trans hBV q2.size
         replace hV := q1
         clear q1 q2 q3 xb
         replace hS := HKS.out _ hb
         refine hK _ _ hS ?_
         clear hK
         try simp only [Act.put, zq1, zq2, zq3, zq4, zq5, zq6]
         refine tky (i := 11) (v := ?_) hS ?_ ?_
         rotate_left
         ·rintro w' ⟨s0', s1'⟩
          go_simp
          try with_reducible rfl
         try simp only [Act.put, zq1, zq2, zq3, zq4, zq5, zq6]
         refine anyY_g (i := 9) (by kernel_rfl) rfl rfl ?_
         intro K hK
         try simp only [zq1, zq2, zq3]
         go_simp
         obtain ⟨V3, eV⟩ : ∃ W', V2.alloc (.cells #[.int .i64 ((v : Int).tmod 3)] 3) = W' := ⟨_, rfl⟩
         have hbn : Below V2.heap.size V2 V3 := by rw [<- eV]; exact (Below.refl _ _).alloc (Nat.le_refl _) _
         have xc9 : Blk V3 V2.heap.size 3 #[.int .i64 ((v : Int).tmod 3)] := by rw [<- eV]; exact Blk.new _ _ _
         rw [eV]
         clear eV
         replace hV := ownsRow_bel hV hbn
         replace hR := fun q hq => And.intro (ownsRow_bel (hR q hq).1 hbn) (hR q hq).2
         replace hY := ownsRow_bel hY hbn
         replace hL := ownsRow_bel hL hbn
         replace hb := hb.trans (hbn.mono hBV)
         replace hBV := Nat.le_trans hBV hbn.size
         obtain ⟨p2, hp2⟩ : ∃ p, p = V2.heap.size := ⟨_, rfl⟩
         rw [<- hp2] at xc9 ⊢
         clear hp2 hbn
         replace hS := HKS.out _ hb
         refine hK _ _ hS ?_
         clear hK
         try simp only [Act.put, zq1, zq2, zq3, zq4, zq5, zq6]
         refine anyY_g (i := 10) (by kernel_rfl) rfl rfl ?_
         intro K hK
         try simp only [zq1, zq2, zq3]
         refine wp_pushK rfl (.tmp 56) (.tmp 59) 22 3 rfl 1 8 _ Try.underlying22 info_int rfl (by omega) (by omega) B (.slice YA i yc) i _ (by rfl) hY p2 (by rfl) #[.int .i64 ((v : Int).tmod 3)] rfl xc9 (by simp [Value.oneCell']) hi9 hBV ?_
         intro g7 cap7 V4 q1 q2 q3
         replace hV := rowTurn hV hY q2 (by decide)
         have hR2 := fun q hq => keep_push (hR q hq).1 (hR q hq).2 q2 q3 (i + 1) cap7
         have hL2 := keep_push hL hA q2 q3 (i + 1) cap7
         replace hb := below_grown hb q2 hBV (fun z hz => (hY.lt z hz).1)
         replace hBV := Nat.le_trans hBV q2.size
         replace hY := q1
         clear q1 q2 q3 xc9 hR hL hA
         replace hS := HKS.out _ hb
         refine hK _ _ hS ?_
         clear hK
         try simp only [Act.put, zq1, zq2, zq3, zq4, zq5, zq6]
         have hx4 := Blk.below HX.out hb HBb.out
         have k0 := Blk.cell hx4 0; have k1 := Blk.cell hx4 1; have f0 := Blk.frozen hx4 0; have f1 := Blk.frozen hx4 1
         simp only [List.getElem?_toArray, List.getElem?_cons_zero, List.getElem?_cons_succ] at k0 k1
         rw [HTY.out] at hY
         have HE := Lib.hid (lawEnd (by omega) hx4 hV hR2 hL2 hY hb HBW.out HBb.out HF.out HW6.out)
         clear hx4 hV hR2 hL2 hY hb hBV hS
         refine anyY_h (i := 12) (by kernel_rfl) (by kernel_rfl) rfl rfl ?_
         intro K hK
         try simp only [zq1, zq2, zq3]
         go_simp
         refine hK _ _ ?_
         clear hK
         try simp only [Act.put, zq1, zq2, zq3, zq4, zq5, zq6]
         refine anyY_h (i := 13) (by kernel_rfl) (by kernel_rfl) rfl rfl ?_
         intro K hK
         try simp only [zq1, zq2, zq3]
         go_simp
         refine hK _ _ ?_
         clear hK
         try simp only [Act.put, zq1, zq2, zq3, zq4, zq5, zq6]
         refine anyY_last (i := 14) (by kernel_rfl) (by kernel_rfl) (by kernel_rfl) rfl rfl ?_
         try simp only [zq1, zq2, zq3]
         go_simp
         try apply_assumption
         clear k0 k1 f0 f1
         go_wp2_with fail
         exact ⟨⟨i + 1, by go_num, by omega, HE⟩, by simp [intOf]; omega⟩
        ·intro K hK
         try simp only [zq1, zq2, zq3]
         go_simp
         obtain ⟨V2, eV⟩ : ∃ W', V1.alloc (.cells #[.int .i64 ((v : Int).tmod 3)] 3) = W' := ⟨_, rfl⟩
         have hbn : Below V1.heap.size V1 V2 := by rw [<- eV]; exact (Below.refl _ _).alloc (Nat.le_refl _) _
         have xc9 : Blk V2 V1.heap.size 3 #[.int .i64 ((v : Int).tmod 3)] := by rw [<- eV]; exact Blk.new _ _ _
         rw [eV]
         clear eV
         replace hV := ownsRow_bel hV hbn
         replace hR := fun q hq => And.intro (ownsRow_bel (hR q hq).1 hbn) (hR q hq).2
         replace hY := ownsRow_bel hY hbn
         replace hL := ownsRow_bel hL hbn
         replace hb := hb.trans (hbn.mono hBV)
         replace hBV := Nat.le_trans hBV hbn.size
         replace xb := Blk.below xb hbn xb.lt
         obtain ⟨p2, hp2⟩ : ∃ p, p = V1.heap.size := ⟨_, rfl⟩
         rw [<- hp2] at xc9 ⊢
         clear hp2 hbn
         replace hS := HKS.out _ hb
         refine hK _ _ hS ?_
         clear hK
         try simp only [Act.put, zq1, zq2, zq3, zq4, zq5, zq6]
         refine anyY_g (i := 4) (by kernel_rfl) rfl rfl ?_
         intro K hK
         try simp only [zq1, zq2, zq3]
         refine wp_pushK rfl (.tmp 51) (.tmp 53) 25 22 rfl 1 24 _ Try.underlying25 info_row rfl (by omega) (by omega) B (.slice XA i xc) i vals (by rfl) hV p1 (by rfl) #[.slice LA j lc] rfl xb (by simp [Value.oneCell']) hi9 hBV ?_
         intro g9 cap9 V3 q1 q2 q3
         replace hR := fun q hq => And.intro (rowTurn (hR q hq).1 hV q2 (by decide)) (hR q hq).2
         replace hY := rowTurn hY hV q2 (by decide)
         replace hL := rowTurn hL hV q2 (by decide)
         replace xc9 := blkTurn xc9 hV q2 (by decide)
         replace hb := below_grown hb q2 hBV (fun z hz => (hV.lt z hz).1)
         replace hBV := Nat.le_trans hBV q2.size
         replace hV := q1
         clear q1 q2 q3 xb
         replace hS := HKS.out _ hb
         refine hK _ _ hS ?_
         clear hK
         try simp only [Act.put, zq1, zq2, zq3, zq4, zq5, zq6]
         refine tky (i := 11) (v := ?_) hS ?_ ?_
         rotate_left
         ·rintro w' ⟨s0', s1'⟩
          go_simp
          try with_reducible rfl
         try simp only [Act.put, zq1, zq2, zq3, zq4, zq5, zq6]
         refine anyY_g (i := 10) (by kernel_rfl) rfl rfl ?_
         intro K hK
         try simp only [zq1, zq2, zq3]
         refine wp_pushK rfl (.tmp 56) (.tmp 59) 22 3 rfl 1 8 _ Try.underlying22 info_int rfl (by omega) (by omega) B (.slice YA i yc) i _ (by rfl) hY p2 (by rfl) #[.int .i64 ((v : Int).tmod 3)] rfl xc9 (by simp [Value.oneCell']) hi9 hBV ?_
         intro g7 cap7 V4 q1 q2 q3
         replace hV := rowTurn hV hY q2 (by decide)
         have hR2 := fun q hq => keep_push (hR q hq).1 (hR q hq).2 q2 q3 (i + 1) cap7
         have hL2 := keep_push hL hA q2 q3 (i + 1) cap7
         replace hb := below_grown hb q2 hBV (fun z hz => (hY.lt z hz).1)
         replace hBV := Nat.le_trans hBV q2.size
         replace hY := q1
         clear q1 q2 q3 xc9 hR hL hA
         replace hS := HKS.out _ hb
         refine hK _ _ hS ?_
         clear hK
         try simp only [Act.put, zq1, zq2, zq3, zq4, zq5, zq6]
         have hx4 := Blk.below HX.out hb HBb.out
         have k0 := Blk.cell hx4 0; have k1 := Blk.cell hx4 1; have f0 := Blk.frozen hx4 0; have f1 := Blk.frozen hx4 1
         simp only [List.getElem?_toArray, List.getElem?_cons_zero, List.getElem?_cons_succ] at k0 k1
         rw [HTY.out] at hY
         have HE := Lib.hid (lawEnd (by omega) hx4 hV hR2 hL2 hY hb HBW.out HBb.out HF.out HW6.out)
         clear hx4 hV hR2 hL2 hY hb hBV hS
         refine anyY_h (i := 12) (by kernel_rfl) (by kernel_rfl) rfl rfl ?_
         intro K hK
         try simp only [zq1, zq2, zq3]
         go_simp
         refine hK _ _ ?_
         clear hK
         try simp only [Act.put, zq1, zq2, zq3, zq4, zq5, zq6]
         refine anyY_h (i := 13) (by kernel_rfl) (by kernel_rfl) rfl rfl ?_
         intro K hK
         try simp only [zq1, zq2, zq3]
         go_simp
         refine hK _ _ ?_
         clear hK
         try simp only [Act.put, zq1, zq2, zq3, zq4, zq5, zq6]
         refine anyY_last (i := 14) (by kernel_rfl) (by kernel_rfl) (by kernel_rfl) rfl rfl ?_
         try simp only [zq1, zq2, zq3]
         go_simp
         try apply_assumption
         clear k0 k1 f0 f1
         go_wp2_with fail
         exact ⟨⟨i + 1, by go_num, by omega, HE⟩, by simp [intOf]; omega⟩
       ·intro K hK
        try simp only [zq1, zq2, zq3]
        go_simp
        obtain ⟨V1, eV⟩ : ∃ W', V0.alloc (.cells #[.int .i64 ((v : Int).tmod 3)] 3) = W' := ⟨_, rfl⟩
        have hbn : Below V0.heap.size V0 V1 := by rw [<- eV]; exact (Below.refl _ _).alloc (Nat.le_refl _) _
        have xc9 : Blk V1 V0.heap.size 3 #[.int .i64 ((v : Int).tmod 3)] := by rw [<- eV]; exact Blk.new _ _ _
        rw [eV]
        clear eV
        replace hV := ownsRow_bel hV hbn
        replace hR := fun q hq => And.intro (ownsRow_bel (hR q hq).1 hbn) (hR q hq).2
        replace hY := ownsRow_bel hY hbn
        replace hL := ownsRow_bel hL hbn
        replace hb := hb.trans (hbn.mono hBV)
        replace hBV := Nat.le_trans hBV hbn.size
        obtain ⟨p2, hp2⟩ : ∃ p, p = V0.heap.size := ⟨_, rfl⟩
        rw [<- hp2] at xc9 ⊢
        clear hp2 hbn
        replace hS := HKS.out _ hb
        refine hK _ _ hS ?_
        clear hK
        try simp only [Act.put, zq1, zq2, zq3, zq4, zq5, zq6]
        refine anyY_g (i := 3) (by kernel_rfl) rfl rfl ?_
        intro K hK
        try simp only [zq1, zq2, zq3]
        go_simp
        obtain ⟨V2, eV⟩ : ∃ W', V1.alloc (.cells #[.slice LA j lc] 22) = W' := ⟨_, rfl⟩
        have hbn : Below V1.heap.size V1 V2 := by rw [<- eV]; exact (Below.refl _ _).alloc (Nat.le_refl _) _
        have xb : Blk V2 V1.heap.size 22 #[.slice LA j lc] := by rw [<- eV]; exact Blk.new _ _ _
        rw [eV]
        clear eV
        replace hV := ownsRow_bel hV hbn
        replace hR := fun q hq => And.intro (ownsRow_bel (hR q hq).1 hbn) (hR q hq).2
        replace hY := ownsRow_bel hY hbn
        replace hL := ownsRow_bel hL hbn
        replace hb := hb.trans (hbn.mono hBV)
        replace hBV := Nat.le_trans hBV hbn.size
        replace xc9 := Blk.below xc9 hbn xc9.lt
        obtain ⟨p1, hp1⟩ : ∃ p, p = V1.heap.size := ⟨_, rfl⟩
        rw [<- hp1] at xb ⊢
        clear hp1 hbn
        replace hS := HKS.out _ hb
        refine hK _ _ hS ?_
        clear hK
        try simp only [Act.put, zq1, zq2, zq3, zq4, zq5, zq6]
        refine anyY_g (i := 4) (by kernel_rfl) rfl rfl ?_
        intro K hK
        try simp only [zq1, zq2, zq3]
        refine wp_pushK rfl (.tmp 51) (.tmp 53) 25 22 rfl 1 24 _ Try.underlying25 info_row rfl (by omega) (by omega) B (.slice XA i xc) i vals (by rfl) hV p1 (by rfl) #[.slice LA j lc] rfl xb (by simp [Value.oneCell']) hi9 hBV ?_
        intro g9 cap9 V3 q1 q2 q3
        replace hR := fun q hq => And.intro (rowTurn (hR q hq).1 hV q2 (by decide)) (hR q hq).2
        replace hY := rowTurn hY hV q2 (by decide)
        replace hL := rowTurn hL hV q2 (by decide)
        replace xc9 := blkTurn xc9 hV q2 (by decide)
        replace hb := below_grown hb q2 hBV (fun z hz => (hV.lt z hz).1)
        replace hBV := Nat.le_trans hBV q2.size
        replace hV := q1
        clear q1 q2 q3 xb
        replace hS := HKS.out _ hb
        refine hK _ _ hS ?_
        clear hK
        try simp only [Act.put, zq1, zq2, zq3, zq4, zq5, zq6]
        refine tky (i := 11) (v := ?_) hS ?_ ?_
        rotate_left
        ·rintro w' ⟨s0', s1'⟩
         go_simp
         try with_reducible rfl
        try simp only [Act.put, zq1, zq2, zq3, zq4, zq5, zq6]
        refine anyY_g (i := 10) (by kernel_rfl) rfl rfl ?_
        intro K hK
        try simp only [zq1, zq2, zq3]
        refine wp_pushK rfl (.tmp 56) (.tmp 59) 22 3 rfl 1 8 _ Try.underlying22 info_int rfl (by omega) (by omega) B (.slice YA i yc) i _ (by rfl) hY p2 (by rfl) #[.int .i64 ((v : Int).tmod 3)] rfl xc9 (by simp [Value.oneCell']) hi9 hBV ?_
        intro g7 cap7 V4 q1 q2 q3
        replace hV := rowTurn hV hY q2 (by decide)
        have hR2 := fun q hq => keep_push (hR q hq).1 (hR q hq).2 q2 q3 (i + 1) cap7
        have hL2 := keep_push hL hA q2 q3 (i + 1) cap7
        replace hb := below_grown hb q2 hBV (fun z hz => (hY.lt z hz).1)
        replace hBV := Nat.le_trans hBV q2.size
        replace hY := q1
        clear q1 q2 q3 xc9 hR hL hA
        replace hS := HKS.out _ hb
        refine hK _ _ hS ?_
        clear hK
        try simp only [Act.put, zq1, zq2, zq3, zq4, zq5, zq6]
        have hx4 := Blk.below HX.out hb HBb.out
        have k0 := Blk.cell hx4 0; have k1 := Blk.cell hx4 1; have f0 := Blk.frozen hx4 0; have f1 := Blk.frozen hx4 1
        simp only [List.getElem?_toArray, List.getElem?_cons_zero, List.getElem?_cons_succ] at k0 k1
        rw [HTY.out] at hY
        have HE := Lib.hid (lawEnd (by omega) hx4 hV hR2 hL2 hY hb HBW.out HBb.out HF.out HW6.out)
        clear hx4 hV hR2 hL2 hY hb hBV hS
        refine anyY_h (i := 12) (by kernel_rfl) (by kernel_rfl) rfl rfl ?_
        intro K hK
        try simp only [zq1, zq2, zq3]
        go_simp
        refine hK _ _ ?_
        clear hK
        try simp only [Act.put, zq1, zq2, zq3, zq4, zq5, zq6]
        refine anyY_h (i := 13) (by kernel_rfl) (by kernel_rfl) rfl rfl ?_
        intro K hK
        try simp only [zq1, zq2, zq3]
        go_simp
        refine hK _ _ ?_
        clear hK
        try simp only [Act.put, zq1, zq2, zq3, zq4, zq5, zq6]
        refine anyY_last (i := 14) (by kernel_rfl) (by kernel_rfl) (by kernel_rfl) rfl rfl ?_
        try simp only [zq1, zq2, zq3]
        go_simp
        try apply_assumption
        clear k0 k1 f0 f1
        go_wp2_with fail
        exact ⟨⟨i + 1, by go_num, by omega, HE⟩, by simp [intOf]; omega⟩
    ·have HMV : Hid (M = i * 7) := Lib.hid (by
      have := HVN.out.1
      rw [<- HME.out]; unfold lawM; rw [if_neg (by omega)])
     have in1 : ¬ (i : Int) < (nl : Int) := by omega
     have in2 : decide (i < nl) = false := by simpa using hin
     go_wp2_with fail
     go_loopw [11, 12, 13] (fun v11 v12 v13 wr => ∃ j : Nat, v13 = .int .i64 (j : Int) /\ j <= n /\ v11 = .int .i64 ((M / k ^ j : Nat) : Int) /\ Hid (Own wr W5.heap.size v12 j (intsN ((List.range j).map fun q => M / k ^ q % k))) /\ Hid (Below W5.heap.size W5 wr)) (fun _ _ v13 _ => n - (intOf v13).toNat)
     case atStart => exact ⟨0, rfl, Nat.zero_le _, by rw [Nat.pow_zero, Nat.div_one, HMV.out]; simp, Lib.hid (Own.nil _ _), Lib.hid (Below.refl _ _)⟩
     case round =>
      obtain ⟨j, rfl, hj, rfl, HL, HB5⟩ := hrel
      have j0 : (0 : Int) <= (j : Int) := Int.natCast_nonneg _
      obtain ⟨v, hv⟩ : ∃ v, M / k ^ j = v := ⟨_, rfl⟩
      rw [hv]
      have HVD := Lib.hid hv
      clear hv
      obtain ⟨-, LA, lc, hvl, hlc, hlc2, -, -⟩ := id HL.out.readsI
      subst hvl
      unfold maxLen at hlc2
      have v0 : (0 : Int) <= (v : Int) := Int.natCast_nonneg _
      by_cases hlj : j < n
      ·have j1 : (j : Int) < (n : Int) := by omega
       have tj : decide (j < n) = true := by simpa using hlj
       have htm : ((v : Nat) : Int).tmod (k : Int) = ((v % k : Nat) : Int) := rfl
       have htd : ((v : Nat) : Int).tdiv (k : Int) = ((v / k : Nat) : Int) := rfl
       have hM9 : M < 1099511627776 := by rw [<- HME.out]; exact lawM_lt ns (by omega)
       have hv9 : v / k < 1099511627776 := Nat.lt_of_le_of_lt (Nat.div_le_self v k) (by rw [<- HVD.out]; exact Nat.lt_of_le_of_lt (Nat.div_le_self M _) hM9)
       have hwr : wrap64 ((v : Int) / (k : Int)) = ((v / k : Nat) : Int) := by
        rw [<- Int.natCast_ediv]
        generalize v / k = z at hv9 ⊢
        exact wrapN_in z hv9
       have HWR := Lib.hid hwr
       clear hwr hM9 hv9
       have hbs := HB5.out.size
       have hj9 : j <= 1000000000 := by omega
       go_wp2_with (at_builtin; refine wpList_push rfl (.tmp 41) (.tmp 45) rfl W5.heap.size wr (.slice LA j lc) j (intsN ((List.range j).map fun q => M / k ^ q % k)) ((v % k : Nat) : Int) (by rfl) HL.out (by rfl) hj9 hbs ?_; intro g9 cap9 w9 hp9; have HP := Lib.hid hp9; clear hp9)
       refine ⟨⟨j + 1, by go_num, by omega, by rw [Nat.pow_succ, <- Nat.div_div_eq_div_mul, HVD.out]; first | done | rfl | rw [HWR.out], Lib.hid ?_, Lib.hid (HP.out.below HB5.out (Nat.le_refl _) hbs)⟩, by simp [intOf]; omega⟩
       have e : intsN ((List.range (j + 1)).map fun q => M / k ^ q % k) = intsN ((List.range j).map fun q => M / k ^ q % k) ++ [((v % k : Nat) : Int)] := by rw [List.range_succ, List.map_append, <- HVD.out]; simp [intsN]
       rw [e]
       exact HP.out.own
      ·obtain rfl : j = n := by omega
       have hbw5 : Below B W5 wr := HB5.out.mono HBW5.out
       have HTY : Hid (((v : Nat) : Int).tmod 3 = ((lawM ns i / k ^ j % 3 : Nat) : Int)) := Lib.hid (by rw [HME.out, HVD.out]; rfl)
       have HX := Lib.hid (Blk.below HX5.out hbw5 HBb.out); have HF := Lib.hid (HF5.out.then_ (Fr.of_below (X := fun _ => False) HB5.out) (fun _ _ e => e.elim)); have HBW := Lib.hid (Nat.le_trans HBW5.out HB5.out.size)
       have HV0 := Lib.hid (ownsRow_bel HV5.out HB5.out); have HY0 := Lib.hid (HY5.out.below_top HB5.out)
       have HR0 := Lib.hid (fun q (hq : q < i) => And.intro ((HR5.out q hq).1.below_top HB5.out) (HR5.out q hq).2)
       have HA0 : Hid (Apart (.slice YA i yc) (.slice LA j lc)) := Lib.hid (by
        cases hz : (Value.slice YA i yc).ownBlock with
        | none => exact .inl hz
        | some z =>
          refine .inr (.inr (fun e => ?_))
          rw [hz] at e
          have h1 := (HY5.out.lt z hz).2
          have h2 := (HL.out.lt z e.symm).1
          omega)
       have HL0 : Hid (Own wr B (.slice LA j lc) j (intsN ((lawT ns k j).getD i []))) := Lib.hid (by
        rw [lawT_at ns hlt, HME.out]
        exact HL.out.more HBW5.out)
       have HKS : Hid (∀ W : World, Below B wr W -> (fun W : World => W.cell? ⟨b, 0, none⟩ = some (.slice XA i xc) /\ W.cell? ⟨b, 1, none⟩ = some (.slice YA i yc)) W) := Lib.hid (fun W hW => by
        have y0 := (Blk.below HX.out hW HBb.out).cell 0
        have y1 := (Blk.below HX.out hW HBb.out).cell 1
        exact ⟨by simpa using y0, by simpa using y1⟩)
       have hi9 : i <= 1000000 := by omega
       clear HL HB5 hbw5 HV5 HY5 HR5 HX5 HF5 HBW5
       go_wp2_with fail
       refine region_y 12 (fun W : World => W.cell? ⟨b, 0, none⟩ = some (.slice XA i xc) /\ W.cell? ⟨b, 1, none⟩ = some (.slice YA i yc)) (by kernel_rfl) ?_
       have hb : Below B wr wr.drew := (Below.refl _ _).drew
       have hbn : Below wr.heap.size wr wr.drew := (Below.refl _ _).drew
       have hS := HKS.out _ hb
       have hV := ownsRow_bel HV0.out hbn
       have hR := fun q hq => And.intro ((HR0.out q hq).1.below_top hbn) (HR0.out q hq).2
       have hY := HY0.out.below_top hbn
       have hL := HL0.out.below_top hbn
       have hA := HA0.out
       have hBV : B <= wr.drew.heap.size := Nat.le_trans HBW.out hb.size
       clear hbn
       generalize wr.drew = V0 at *
       refine tky (i := 0) (v := ?_) hS ?_ ?_
       rotate_left
       ·rintro w' ⟨s0', s1'⟩
        go_simp
        try with_reducible rfl
       try simp only [Act.put, zq1, zq2, zq3, zq4, zq5, zq6]
       refine tky (i := 1) (v := ?_) hS ?_ ?_
       rotate_left
       ·rintro w' ⟨s0', s1'⟩
        go_simp
        try with_reducible rfl
       try simp only [Act.put, zq1, zq2, zq3, zq4, zq5, zq6]
       refine tky0 (i := 2) (v := ?_) hS ?_ ?_
       rotate_left
       ·rintro w' -
        go_simp
        try with_reducible rfl
       try simp only [Act.put, zq1, zq2, zq3, zq4, zq5, zq6]
       refine tky (i := 5) (v := ?_) hS ?_ ?_
       rotate_left
       ·rintro w' ⟨s0', s1'⟩
        go_simp
        try with_reducible rfl
       try simp only [Act.put, zq1, zq2, zq3, zq4, zq5, zq6]
       refine tky (i := 6) (v := ?_) hS ?_ ?_
       rotate_left
       ·rintro w' ⟨s0', s1'⟩
        go_simp
        try with_reducible rfl
       try simp only [Act.put, zq1, zq2, zq3, zq4, zq5, zq6]
       refine tkyg [10, 9, 8] (i := 7) (v := ?_) hS ?_ ?_
       rotate_left
       ·rintro w' ⟨s0', s1'⟩
        go_simp
        try with_reducible rfl
       try simp only [Act.put, zq1, zq2, zq3, zq4, zq5, zq6]
       refine tkyg [10, 9] (i := 8) (v := ?_) hS ?_ ?_
       rotate_left
       ·rintro w' ⟨s0', s1'⟩
        go_simp
        try with_reducible rfl
       try simp only [Act.put, zq1, zq2, zq3, zq4, zq5, zq6]
       refine anyY_2 (i := 3) (j := 9) (by kernel_rfl) rfl rfl rfl rfl ?_ ?_
       ·intro K hK
        try simp only [zq1, zq2, zq3]
        go_simp
        obtain ⟨V1, eV⟩ : ∃ W', V0.alloc (.cells #[.slice LA j lc] 22) = W' := ⟨_, rfl⟩
        have hbn : Below V0.heap.size V0 V1 := by rw [<- eV]; exact (Below.refl _ _).alloc (Nat.le_refl _) _
        have xb : Blk V1 V0.heap.size 22 #[.slice LA j lc] := by rw [<- eV]; exact Blk.new _ _ _
        rw [eV]
        clear eV
        replace hV := ownsRow_bel hV hbn
        replace hR := fun q hq => And.intro (ownsRow_bel (hR q hq).1 hbn) (hR q hq).2
        replace hY := ownsRow_bel hY hbn
        replace hL := ownsRow_bel hL hbn
        replace hb := hb.trans (hbn.mono hBV)
        replace hBV := Nat.le_trans hBV hbn.size
        obtain ⟨p1, hp1⟩ : ∃ p, p = V0.heap.size := ⟨_, rfl⟩
        rw [<- hp1] at xb ⊢
        clear hp1 hbn
        replace hS := HKS.out _ hb
        refine hK _ _ hS ?_
        clear hK
        try simp only [Act.put, zq1, zq2, zq3, zq4, zq5, zq6]
        refine anyY_2 (i := 4) (j := 9) (by kernel_rfl) rfl rfl rfl rfl ?_ ?_
        ·intro K hK
         try simp only [zq1, zq2, zq3]
         refine wp_pushK rfl (.tmp 51) (.tmp 53) 25 22 rfl 1 24 _ Try.underlying25 info_row rfl (by omega) (by omega) B (.slice XA i xc) i vals (by rfl) hV p1 (by rfl) #[.slice LA j lc] rfl xb (by simp [Value.oneCell']) hi9 hBV ?_
         intro g9 cap9 V2 q1 q2 q3
         replace hR := fun q hq => And.intro (rowTurn (hR q hq).1 hV q2 (by decide)) (hR q hq).2
         replace hY := rowTurn hY hV q2 (by decide)
         replace hL := rowTurn hL hV q2 (by decide)
         replace hb := below_grown hb q2 hBV (fun z hz => (hV.lt z hz).1)
         replace hBV := Nat.le_trans hBV q2.size
         replace hV := q1
         clear q1 q2 q3 xb
         replace hS := HKS.out _ hb
         refine hK _ _ hS ?_
         clear hK
         try simp only [Act.put, zq1, zq2, zq3, zq4, zq5, zq6]
         refine tky (i := 11) (v := ?_) hS ?_ ?_
         rotate_left
         ·rintro w' ⟨s0', s1'⟩
          go_simp
          try with_reducible rfl
         try simp only [Act.put, zq1, zq2, zq3, zq4, zq5, zq6]
         refine anyY_g (i := 9) (by kernel_rfl) rfl rfl ?_
         intro K hK
         try simp only [zq1, zq2, zq3]
         go_simp
         obtain ⟨V3, eV⟩ : ∃ W', V2.alloc (.cells #[.int .i64 ((v : Int).tmod 3)] 3) = W' := ⟨_, rfl⟩
         have hbn : Below V2.heap.size V2 V3 := by rw [<- eV]; exact (Below.refl _ _).alloc (Nat.le_refl _) _
         have xc9 : Blk V3 V2.heap.size 3 #[.int .i64 ((v : Int).tmod 3)] := by rw [<- eV]; exact Blk.new _ _ _
         rw [eV]
         clear eV
         replace hV := ownsRow_bel hV hbn
         replace hR := fun q hq => And.intro (ownsRow_bel (hR q hq).1 hbn) (hR q hq).2
         replace hY := ownsRow_bel hY hbn
         replace hL := ownsRow_bel hL hbn
         replace hb := hb.trans (hbn.mono hBV)
         replace hBV := Nat.le_trans hBV hbn.size
         obtain ⟨p2, hp2⟩ : ∃ p, p = V2.heap.size := ⟨_, rfl⟩
         rw [<- hp2] at xc9 ⊢
         clear hp2 hbn
         replace hS := HKS.out _ hb
         refine hK _ _ hS ?_
         clear hK
         try simp only [Act.put, zq1, zq2, zq3, zq4, zq5, zq6]
         refine anyY_g (i := 10) (by kernel_rfl) rfl rfl ?_
         intro K hK
         try simp only [zq1, zq2, zq3]
         refine wp_pushK rfl (.tmp 56) (.tmp 59) 22 3 rfl 1 8 _ Try.underlying22 info_int rfl (by omega) (by omega) B (.slice YA i yc) i _ (by rfl) hY p2 (by rfl) #[.int .i64 ((v : Int).tmod 3)] rfl xc9 (by simp [Value.oneCell']) hi9 hBV ?_
         intro g7 cap7 V4 q1 q2 q3
         replace hV := rowTurn hV hY q2 (by decide)
         have hR2 := fun q hq => keep_push (hR q hq).1 (hR q hq).2 q2 q3 (i + 1) cap7
         have hL2 := keep_push hL hA q2 q3 (i + 1) cap7
         replace hb := below_grown hb q2 hBV (fun z hz => (hY.lt z hz).1)
         replace hBV := Nat.le_trans hBV q2.size
         replace hY := q1
         clear q1 q2 q3 xc9 hR hL hA
         replace hS := HKS.out _ hb
         refine hK _ _ hS ?_
         clear hK
         try simp only [Act.put, zq1, zq2, zq3, zq4, zq5, zq6]
         have hx4 := Blk.below HX.out hb HBb.out
         have k0 := Blk.cell hx4 0; have k1 := Blk.cell hx4 1; have f0 := Blk.frozen hx4 0; have f1 := Blk.frozen hx4 1
         simp only [List.getElem?_toArray, List.getElem?_cons_zero, List.getElem?_cons_succ] at k0 k1
         rw [HTY.out] at hY
         have HE := Lib.hid (lawEnd (by omega) hx4 hV hR2 hL2 hY hb HBW.out HBb.out HF.out HW6.out)
         clear hx4 hV hR2 hL2 hY hb hBV hS
         refine anyY_h (i := 12) (by kernel_rfl) (by kernel_rfl) rfl rfl ?_
         intro K hK
         try simp only [zq1, zq2, zq3]
         go_simp
         refine hK _ _ ?_
         clear hK
         try simp only [Act.put, zq1, zq2, zq3, zq4, zq5, zq6]
         refine anyY_h (i := 13) (by kernel_rfl) (by kernel_rfl) rfl rfl ?_
         intro K hK
         try simp only [zq1, zq2, zq3]
         go_simp
         refine hK _ _ ?_
         clear hK
         try simp only [Act.put, zq1, zq2, zq3, zq4, zq5, zq6]
         refine anyY_last (i := 14) (by kernel_rfl) (by kernel_rfl) (by kernel_rfl) rfl rfl ?_
         try simp only [zq1, zq2, zq3]
         go_simp
         try apply_assumption
         clear k0 k1 f0 f1
         go_wp2_with fail
         exact ⟨⟨i + 1, by go_num, by omega, HE⟩, by simp [intOf]; omega⟩
        ·intro K hK
         try simp only [zq1, zq2, zq3]
         go_simp
         obtain ⟨V2, eV⟩ : ∃ W', V1.alloc (.cells #[.int .i64 ((v : Int).tmod 3)] 3) = W' := ⟨_, rfl⟩
         have hbn : Below V1.heap.size V1 V2 := by rw [<- eV]; exact (Below.refl _ _).alloc (Nat.le_refl _) _
         have xc9 : Blk V2 V1.heap.size 3 #[.int .i64 ((v : Int).tmod 3)] := by rw [<- eV]; exact Blk.new _ _ _
         rw [eV]
         clear eV
         replace hV := ownsRow_bel hV hbn
         replace hR := fun q hq => And.intro (ownsRow_bel (hR q hq).1 hbn) (hR q hq).2
         replace hY := ownsRow_bel hY hbn
         replace hL := ownsRow_bel hL hbn
         replace hb := hb.trans (hbn.mono hBV)
         replace hBV := Nat.le_trans hBV hbn.size
         replace xb := Blk.below xb hbn xb.lt
         obtain ⟨p2, hp2⟩ : ∃ p, p = V1.heap.size := ⟨_, rfl⟩
         rw [<- hp2] at xc9 ⊢
         clear hp2 hbn
         replace hS := HKS.out _ hb
         refine hK _ _ hS ?_
         clear hK
         try simp only [Act.put, zq1, zq2, zq3, zq4, zq5, zq6]
         refine anyY_g (i := 4) (by kernel_rfl) rfl rfl ?_
         intro K hK
         try simp only [zq1, zq2, zq3]
         refine wp_pushK rfl (.tmp 51) (.tmp 53) 25 22 rfl 1 24 _ Try.underlying25 info_row rfl (by omega) (by omega) B (.slice XA i xc) i vals (by rfl) hV p1 (by rfl) #[.slice LA j lc] rfl xb (by simp [Value.oneCell']) hi9 hBV ?_
         intro g9 cap9 V3 q1 q2 q3
         replace hR := fun q hq => And.intro (rowTurn (hR q hq).1 hV q2 (by decide)) (hR q hq).2
         replace hY := rowTurn hY hV q2 (by decide)
         replace hL := rowTurn hL hV q2 (by decide)
         replace xc9 := blkTurn xc9 hV q2 (by decide)
         replace hb := below_grown hb q2 hBV (fun z hz => (hV.lt z hz).1)
         replace hBV := Nat.le_trans hBV q2.size
         replace hV := q1
         clear q1 q2 q3 xb
         replace hS := HKS.out _ hb
         refine hK _ _ hS ?_
         clear hK
         try simp only [Act.put, zq1, zq2, zq3, zq4, zq5, zq6]
         refine tky (i := 11) (v := ?_) hS ?_ ?_
         rotate_left
         ·rintro w' ⟨s0', s1'⟩
          go_simp
          try with_reducible rfl
         try simp only [Act.put, zq1, zq2, zq3, zq4, zq5, zq6]
         refine anyY_g (i := 10) (by kernel_rfl) rfl rfl ?_
         intro K hK
         try simp only [zq1, zq2, zq3]
         refine wp_pushK rfl (.tmp 56) (.tmp 59) 22 3 rfl 1 8 _ Try.underlying22 info_int rfl (by omega) (by omega) B (.slice YA i yc) i _ (by rfl) hY p2 (by rfl) #[.int .i64 ((v : Int).tmod 3)] rfl xc9 (by simp [Value.oneCell']) hi9 hBV ?_
         intro g7 cap7 V4 q1 q2 q3
         replace hV := rowTurn hV hY q2 (by decide)
         have hR2 := fun q hq => keep_push (hR q hq).1 (hR q hq).2 q2 q3 (i + 1) cap7
         have hL2 := keep_push hL hA q2 q3 (i + 1) cap7
         replace hb := below_grown hb q2 hBV (fun z hz => (hY.lt z hz).1)
         replace hBV := Nat.le_trans hBV q2.size
         replace hY := q1
         clear q1 q2 q3 xc9 hR hL hA
         replace hS := HKS.out _ hb
         refine hK _ _ hS ?_
         clear hK
         try simp only [Act.put, zq1, zq2, zq3, zq4, zq5, zq6]
         have hx4 := Blk.below HX.out hb HBb.out
         have k0 := Blk.cell hx4 0; have k1 := Blk.cell hx4 1; have f0 := Blk.frozen hx4 0; have f1 := Blk.frozen hx4 1
         simp only [List.getElem?_toArray, List.getElem?_cons_zero, List.getElem?_cons_succ] at k0 k1
         rw [HTY.out] at hY
         have HE := Lib.hid (lawEnd (by omega) hx4 hV hR2 hL2 hY hb HBW.out HBb.out HF.out HW6.out)
         clear hx4 hV hR2 hL2 hY hb hBV hS
         refine anyY_h (i := 12) (by kernel_rfl) (by kernel_rfl) rfl rfl ?_
         intro K hK
         try simp only [zq1, zq2, zq3]
         go_simp
         refine hK _ _ ?_
         clear hK
         try simp only [Act.put, zq1, zq2, zq3, zq4, zq5, zq6]
         refine anyY_h (i := 13) (by kernel_rfl) (by kernel_rfl) rfl rfl ?_
         intro K hK
         try simp only [zq1, zq2, zq3]
         go_simp
         refine hK _ _ ?_
         clear hK
         try simp only [Act.put, zq1, zq2, zq3, zq4, zq5, zq6]
         refine anyY_last (i := 14) (by kernel_rfl) (by kernel_rfl) (by kernel_rfl) rfl rfl ?_
         try simp only [zq1, zq2, zq3]
         go_simp
         try apply_assumption
         clear k0 k1 f0 f1
         go_wp2_with fail
         exact ⟨⟨i + 1, by go_num, by omega, HE⟩, by simp [intOf]; omega⟩
       ·intro K hK
        try simp only [zq1, zq2, zq3]
        go_simp
        obtain ⟨V1, eV⟩ : ∃ W', V0.alloc (.cells #[.int .i64 ((v : Int).tmod 3)] 3) = W' := ⟨_, rfl⟩
        have hbn : Below V0.heap.size V0 V1 := by rw [<- eV]; exact (Below.refl _ _).alloc (Nat.le_refl _) _
        have xc9 : Blk V1 V0.heap.size 3 #[.int .i64 ((v : Int).tmod 3)] := by rw [<- eV]; exact Blk.new _ _ _
        rw [eV]
        clear eV
        replace hV := ownsRow_bel hV hbn
        replace hR := fun q hq => And.intro (ownsRow_bel (hR q hq).1 hbn) (hR q hq).2
        replace hY := ownsRow_bel hY hbn
        replace hL := ownsRow_bel hL hbn
        replace hb := hb.trans (hbn.mono hBV)
        replace hBV := Nat.le_trans hBV hbn.size
        obtain ⟨p2, hp2⟩ : ∃ p, p = V0.heap.size := ⟨_, rfl⟩
        rw [<- hp2] at xc9 ⊢
        clear hp2 hbn
        replace hS := HKS.out _ hb
        refine hK _ _ hS ?_
        clear hK
        try simp only [Act.put, zq1, zq2, zq3, zq4, zq5, zq6]
        refine anyY_g (i := 3) (by kernel_rfl) rfl rfl ?_
        intro K hK
        try simp only [zq1, zq2, zq3]
        go_simp
        obtain ⟨V2, eV⟩ : ∃ W', V1.alloc (.cells #[.slice LA j lc] 22) = W' := ⟨_, rfl⟩
        have hbn : Below V1.heap.size V1 V2 := by rw [<- eV]; exact (Below.refl _ _).alloc (Nat.le_refl _) _
        have xb : Blk V2 V1.heap.size 22 #[.slice LA j lc] := by rw [<- eV]; exact Blk.new _ _ _
        rw [eV]
        clear eV
        replace hV := ownsRow_bel hV hbn
        replace hR := fun q hq => And.intro (ownsRow_bel (hR q hq).1 hbn) (hR q hq).2
        replace hY := ownsRow_bel hY hbn
        replace hL := ownsRow_bel hL hbn
        replace hb := hb.trans (hbn.mono hBV)
        replace hBV := Nat.le_trans hBV hbn.size
        replace xc9 := Blk.below xc9 hbn xc9.lt
        obtain ⟨p1, hp1⟩ : ∃ p, p = V1.heap.size := ⟨_, rfl⟩
        rw [<- hp1] at xb ⊢
        clear hp1 hbn
        replace hS := HKS.out _ hb
        refine hK _ _ hS ?_
        clear hK
        try simp only [Act.put, zq1, zq2, zq3, zq4, zq5, zq6]
        refine anyY_g (i := 4) (by kernel_rfl) rfl rfl ?_
        intro K hK
        try simp only [zq1, zq2, zq3]
        refine wp_pushK rfl (.tmp 51) (.tmp 53) 25 22 rfl 1 24 _ Try.underlying25 info_row rfl (by omega) (by omega) B (.slice XA i xc) i vals (by rfl) hV p1 (by rfl) #[.slice LA j lc] rfl xb (by simp [Value.oneCell']) hi9 hBV ?_
        intro g9 cap9 V3 q1 q2 q3
        replace hR := fun q hq => And.intro (rowTurn (hR q hq).1 hV q2 (by decide)) (hR q hq).2
        replace hY := rowTurn hY hV q2 (by decide)
        replace hL := rowTurn hL hV q2 (by decide)
        replace xc9 := blkTurn xc9 hV q2 (by decide)
        replace hb := below_grown hb q2 hBV (fun z hz => (hV.lt z hz).1)
        replace hBV := Nat.le_trans hBV q2.size
        replace hV := q1
        clear q1 q2 q3 xb
        replace hS := HKS.out _ hb
        refine hK _ _ hS ?_
        clear hK
        try simp only [Act.put, zq1, zq2, zq3, zq4, zq5, zq6]
        refine tky (i := 11) (v := ?_) hS ?_ ?_
        rotate_left
        ·rintro w' ⟨s0', s1'⟩
         go_simp
         try with_reducible rfl
        try simp only [Act.put, zq1, zq2, zq3, zq4, zq5, zq6]
        refine anyY_g (i := 10) (by kernel_rfl) rfl rfl ?_
        intro K hK
        try simp only [zq1, zq2, zq3]
        refine wp_pushK rfl (.tmp 56) (.tmp 59) 22 3 rfl 1 8 _ Try.underlying22 info_int rfl (by omega) (by omega) B (.slice YA i yc) i _ (by rfl) hY p2 (by rfl) #[.int .i64 ((v : Int).tmod 3)] rfl xc9 (by simp [Value.oneCell']) hi9 hBV ?_
        intro g7 cap7 V4 q1 q2 q3
        replace hV := rowTurn hV hY q2 (by decide)
        have hR2 := fun q hq => keep_push (hR q hq).1 (hR q hq).2 q2 q3 (i + 1) cap7
        have hL2 := keep_push hL hA q2 q3 (i + 1) cap7
        replace hb := below_grown hb q2 hBV (fun z hz => (hY.lt z hz).1)
        replace hBV := Nat.le_trans hBV q2.size
        replace hY := q1
        clear q1 q2 q3 xc9 hR hL hA
        replace hS := HKS.out _ hb
        refine hK _ _ hS ?_
        clear hK
        try simp only [Act.put, zq1, zq2, zq3, zq4, zq5, zq6]
        have hx4 := Blk.below HX.out hb HBb.out
        have k0 := Blk.cell hx4 0; have k1 := Blk.cell hx4 1; have f0 := Blk.frozen hx4 0; have f1 := Blk.frozen hx4 1
        simp only [List.getElem?_toArray, List.getElem?_cons_zero, List.getElem?_cons_succ] at k0 k1
        rw [HTY.out] at hY
        have HE := Lib.hid (lawEnd (by omega) hx4 hV hR2 hL2 hY hb HBW.out HBb.out HF.out HW6.out)
        clear hx4 hV hR2 hL2 hY hb hBV hS
        refine anyY_h (i := 12) (by kernel_rfl) (by kernel_rfl) rfl rfl ?_
        intro K hK
        try simp only [zq1, zq2, zq3]
        go_simp
        refine hK _ _ ?_
        clear hK
        try simp only [Act.put, zq1, zq2, zq3, zq4, zq5, zq6]
        refine anyY_h (i := 13) (by kernel_rfl) (by kernel_rfl) rfl rfl ?_
        intro K hK
        try simp only [zq1, zq2, zq3]
        go_simp
        refine hK _ _ ?_
        clear hK
        try simp only [Act.put, zq1, zq2, zq3, zq4, zq5, zq6]
        refine anyY_last (i := 14) (by kernel_rfl) (by kernel_rfl) (by kernel_rfl) rfl rfl ?_
        try simp only [zq1, zq2, zq3]
        go_simp
        try apply_assumption
        clear k0 k1 f0 f1
        go_wp2_with fail
        exact ⟨⟨i + 1, by go_num, by omega, HE⟩, by simp [intOf]; omega⟩
   ·obtain rfl : i = k := by omega
    have hb5 : Below w.heap.size w wr := HB6.out.trans (hf5.below (by have := HB6.out.size; omega) (fun q hq e => by have := HE1.out; omega))
    have hx0 := hf5.blk HX0.out hb01
    have k0 := Blk.cell hx5 0; have k1' := Blk.cell hx5 1
    have r0 := Blk.cell hx0 0; have r1 := Blk.cell hx0 1; have f0 := Blk.frozen hx0 0; have f1 := Blk.frozen hx0 1
    simp only [List.getElem?_toArray, List.getElem?_cons_zero, List.getElem?_cons_succ] at k0 k1' r0 r1
    have HV5 := Lib.hid hv5; have HR5 := Lib.hid hr5; have HY5 := Lib.hid hy5; have HBW := Lib.hid hb5; have HX6 := Lib.hid hx0.lt; have HX5 := Lib.hid hx5.lt
    have hb0B : b0 < B := by have := HX0.out.lt; have := HW6.out; omega
    clear hx5 hv5 hr5 hy5 hf5 hb5 hx0 HJ
    go_wp2_with fail
    refine bodyPost_ret (v := .agg #[.slice XA i xc, .slice YA i yc]) (by simp [results, Try.results42, go_sem, r0, r1]) rfl ?_
    have hfr2 : Fr (fun q => q = b0) wr ((wr.setCell ⟨b0, 0, none⟩ (.slice XA i xc)).setCell ⟨b0, 1, none⟩ (.slice YA i yc)) := ((Fr.refl (fun q => q = b0) wr).set_ (p := ⟨b0, 0, none⟩) (.inl rfl) _).set_ (p := ⟨b0, 1, none⟩) (.inl rfl) _
    have kp : ∀ {t : TypeId} {s c : Nat} {z : Value} {ys : List Value}, wr.ownsRow B t s z c ys -> ((wr.setCell ⟨b0, 0, none⟩ (.slice XA i xc)).setCell ⟨b0, 1, none⟩ (.slice YA i yc)).ownsRow w.heap.size t s z c ys := fun {t s c z ys} ho => ownsRow_any (rowFr ho hfr2 (fun q hq e => by have := (ho.lt q hq).1; omega)) h0B
    refine ⟨_, _, vals, rfl, kp HV5.out, fun q hq => ⟨kp (HR5.out q hq).1, (HR5.out q hq).2⟩, ?_, HBW.out.trans (hfr2.below HBW.out.size (fun q hq e => by omega))⟩
    ·have h1 := HY5.out
     rw [List.take_of_length_le (by rw [lawO_len]; exact Nat.le_refl _)] at h1
     exact kp h1
theorem lawLL {w : World} {B k n : Nat} {v vo : Value} {vals : List Value} {ns : List Int} (hv : w.ownsRow B 22 1 v k vals) (hr : ∀ q, q < k -> Own w B (vals.getD q undef) n (intsN ((lawT ns k n).getD q [])) /\ Apart vo (vals.getD q undef)) : OwnLL w B 22 3 1 v k (xssT (lawT ns k n) k) := by
 refine ⟨by simp [xssT], vals, hv, fun q hq => ?_⟩
 have h1 := hr q hq
 have e : (xssT (lawT ns k n) k).getD q (0, []) = (n, (intsN ((lawT ns k n).getD q [])).map (Value.int .i64)) := by
  have e0 : ((lawT ns k n).getD q []).length = n := (law_rect ns (by omega)).len q (by rw [lawT_len]; exact hq)
  simp only [xssT, List.getD_eq_getElem?_getD, List.getElem?_map, List.getElem?_range hq, Option.map_some, Option.getD_some]
  rw [<- List.getD_eq_getElem?_getD, e0]
 rw [e]
 refine ⟨h1.1, ?_⟩
 cases hz : (vals.getD q undef).ownBlock with
 | none => exact .inr (.inl hz)
 | some z => exact .inr (.inr (fun e => rows_ne h1.1 hv (by decide) z hz (by rw [e, hz])))
theorem lawBack_any {w : World} {NSA : Option Addr} {nl nsc k n : Nat} {ns : List Int} (hv : ReadsI w (.slice NSA nl nsc) nl ns) (size letters : Int) (hk : (k : Int) = 1 + size % 9) (hn : (n : Int) = 1 + letters % 3) :
  Calls Try.prog 42 #[.int .i64 size, .int .i64 letters, .slice NSA nl nsc] w fun e w' => ∃ vn vo, e = .returned (.agg #[vn, vo]) /\ OwnLL w' w.heap.size 22 3 1 vn k (xssT (lawT ns k n) k) /\ Own w' w.heap.size vo k (intsN (lawO ns k n)) /\ Below w.heap.size w w' :=
  (lawBack_ap hv size letters hk hn).mono fun e w' ⟨vn, vo, vals, he, h1, h2, h3, h4⟩ => ⟨vn, vo, he, lawLL h1 h2, h3, h4⟩
end Go.Proofs.Ytacgakkcpmhgmaa
