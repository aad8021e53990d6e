/- Contracts of the reference's writing of numbers and patterns. Contracts of the reference's writing of sets. -/
import Derived.Test.YtalgnnidhnhciaaGreatDoorShort
import Derived.Test.YtalgnnidhnhciaaGreatDoorULj
import Derived.Test.YtalgnnidhnhciaaGreatDoorULa
import Derived.IntWalk
set_option linter.unusedVariables false
set_option linter.unusedSimpArgs false
set_option linter.unusedVariables false
set_option linter.unusedSimpArgs false
set_option maxRecDepth 100000
set_option maxHeartbeats 8000000
namespace Go.Proofs.YtalgnnidhnhciaaGreatDoor
open Go Go.RowKit Go.Proofs
def WrR (w : World) (l : Bs) (e : Ending) (w' : World) : Prop := ∃ t : ByteArray, e = .returned (.string t) /\ t.data.toList = l /\ t.size = l.length /\ Below w.heap.size w w'
theorem size_list (t : ByteArray) : t.size = t.data.toList.length := rfl
theorem WrR.mk' {w w' : World} {l : Bs} (t : ByteArray) (h : t.data.toList = l) (hb : Below w.heap.size w w') : WrR w l (.returned (.string t)) w' := ⟨t, rfl, h, by rw [size_list, h], hb⟩
structure BoxS (w : World) (T : TypeId) (c0 : Array Value) (W : World) : Prop where
 below : Below w.heap.size w W
 a : Blk W w.heap.size T c0
theorem BoxS.mk' (w : World) (T : TypeId) (c0 : Array Value) : BoxS w T c0 (w.alloc (.cells c0 T)) := ⟨(Below.refl _ _).alloc (Nat.le_refl _) _, Blk.new _ _ _⟩
theorem BoxS.bel {w W W' : World} {T : TypeId} {c0 : Array Value} (h : BoxS w T c0 W) (hb : Below W.heap.size W W') : BoxS w T c0 W' := ⟨h.below.trans (hb.mono h.below.size), Blk.below h.a hb h.a.lt⟩
theorem BoxS.drew {w W : World} {T : TypeId} {c0 : Array Value} (h : BoxS w T c0 W) : BoxS w T c0 W.drew := ⟨h.below.drew, Blk.drew h.a⟩
theorem BoxS.alloc {w W : World} {T : TypeId} {c0 : Array Value} (h : BoxS w T c0 W) (o : Obj) : BoxS w T c0 (W.alloc o) := h.bel ((Below.refl _ _).alloc (Nat.le_refl _) o)
theorem rdigit_any (n : Nat) (w : World) (h1 : n < 10) : Calls Tryz.prog 36 #[.int .i64 n] w (WrR w (Lib.decDigits n)) := by
 have hd : strOfNums [48 + (n : Int)] = ⟨(Lib.decDigits n).toArray⟩ := by
  rw [Lib.decDigits, dif_pos (by omega)]
  unfold strOfNums
  simp only [List.map_cons, List.map_nil]
  rw [show (48 + (n : Int)).toNat = 48 + n by omega]
 have HD := Lib.hid hd; clear hd
 have hcv := run_convert_bytes_arg (P := Tryz.prog) (w.alloc (.cells #[.int .u8 (48 + (n : Int))] 5)) 80 5 Tryz.underlying80 Tryz.underlying5 w.heap.size 0 1 1 [48 + (n : Int)] rfl (fun i hi => by
  obtain rfl : i = 0 := by omega
  simp [go_sem]) 9 Tryz.underlying9
 have n0 : (0 : Int) <= (n : Int) := by omega
 have n1 : (n : Int) < 10 := by omega
 go_enter Tryz.func36, Tryz.ntmps36
 go_wp2_with fail
 go_ret
 exact WrR.mk' _ (by rw [HD.out]) ((Below.refl _ _).alloc (Nat.le_refl _) _)
theorem rdigits_any (n : Nat) (w : World) (h1 : n < 100) : Calls Tryz.prog 36 #[.int .i64 n] w (WrR w (Lib.decDigits n)) := by
 by_cases h : n < 10
 ·exact rdigit_any n w h
 ·have hd : Lib.decDigits n = Lib.decDigits (n / 10) ++ Lib.decDigits (n % 10) := by
   rw [dec_big' h, dec_small' (u := n % 10) (by omega)]
  have ha := dec_len1 (n / 10) (by omega)
  have hb := dec_len1 (n % 10) (by omega)
  have c1 := fun w => rdigit_any (n / 10) w (by omega)
  have c2 := fun w => rdigit_any (n % 10) w (by omega)
  rw [hd]
  generalize Lib.decDigits (n / 10) = l1 at *
  generalize Lib.decDigits (n % 10) = l2 at *
  rw [show (((n / 10 : Nat)) : Int) = (n : Int) / 10 by omega] at c1
  rw [show (((n % 10 : Nat)) : Int) = (n : Int) % 10 by omega] at c2
  have n0 : (10 : Int) <= (n : Int) := by omega
  have n1 : (n : Int) < 100 := by omega
  have C1 := Lib.hid c1; have C2 := Lib.hid c2; have HA := Lib.hid ha; have HB := Lib.hid hb
  clear c1 c2 hd ha hb h
  go_enter Tryz.func36, Tryz.ntmps36
  go_wp2_with fail
  refine (C1.out _).mono ?_
  rintro e w1 ⟨t1, rfl, ht1, hz1, hb1⟩
  have hs1 : t1.size <= 1 := by rw [hz1, HA.out]; exact Nat.le_refl _
  have HT1 := Lib.hid ht1; have HB1 := Lib.hid hb1; clear ht1 hz1 hb1
  go_wp2_with fail
  refine (C2.out _).mono ?_
  rintro e w2 ⟨t2, rfl, ht2, hz2, hb2⟩
  have hs2 : t2.size <= 1 := by rw [hz2, HB.out]; exact Nat.le_refl _
  have HT2 := Lib.hid ht2; have HB2 := Lib.hid (HB1.out.trans (hb2.mono HB1.out.size)); clear ht2 hz2 hb2
  have hl3 : ¬ 9223372036854775807 < t1.size + t2.size := by omega
  go_wp2_with fail
  go_ret
  exact WrR.mk' _ (by rw [ByteArray.data_append, Array.toList_append, HT1.out, HT2.out]) HB2.out
def RwSpec (f : Nat) (p : Pat) (l : Bs) : Prop := ∀ (w : World) (S : Nat -> Prop) (v : Value), TreeV true w S v p.tree -> Calls Tryz.prog f #[v] w (WrR w l)
theorem Pat.kindA (p : Pat) : ∃ k lo hi wt nm, p.tree = .mk k lo hi wt nm (p.kids.map Pat.tree) /\ (p.atom = true -> k = 1 \/ k = 2 \/ k = 3) /\ (p.atom = false -> 4 <= k) := by
 cases p <;> exact ⟨_, _, _, _, _, rfl, by simp [Pat.atom], by simp [Pat.atom]⟩
theorem inside_ok (p : Pat) (hl : p.text.length <= 1000000) (h : RwSpec 22 p p.text) : RwSpec 43 p (within_ p.atom p.text) := by
 intro w S v hT
 obtain ⟨k, lo, hi, wt, nm0, hpt, hk1, hk2⟩ := p.kindA
 obtain ⟨P, hP⟩ : ∃ P, p.text = P := ⟨_, rfl⟩
 rw [hP] at h hl ⊢
 have hcon := fun W (hb : Below w.heap.size w W) => h W S v (hT.bel (fun _ h => h) hb)
 rw [hpt] at hT
 obtain ⟨nm, A, n, c, rfl, hk⟩ := hT.six_
 have hB0 := BoxS.mk' w 46 #[.int .i64 k, .int .i64 lo, .int .i64 hi, .int .i64 wt, .string nm, .slice A n c]
 have HC := Lib.hid hcon; have HB := Lib.hid hB0.below; have HL := Lib.hid hl
 clear hcon hB0 hk hT h hpt hP hl
 by_cases ha : p.atom = true
 ·have hk := hk1 ha
  rw [ha]
  clear hk1 hk2 ha
  rcases hk with rfl | rfl | rfl
  all_goals (
   go_enter Tryz.func43, Tryz.ntmps43
   go_wp2_with fail
   refine (HC.out _ HB.out).mono ?_
   rintro e w1 ⟨t1, rfl, ht1, hz1, hb1⟩
   have HT1 := Lib.hid ht1; have HB1 := Lib.hid (HB.out.trans (hb1.mono HB.out.size)); clear ht1 hz1 hb1
   go_wp2_with fail
   go_ret
   exact WrR.mk' _ HT1.out HB1.out)
 ·have ha' : p.atom = false := by simpa using ha
  have hk := hk2 ha'
  rw [ha']
  have q1 : (k == 1) = false := by simp; omega
  have q2 : (k == 2) = false := by simp; omega
  have q3 : (k == 3) = false := by simp; omega
  clear hk1 hk2 ha ha'
  go_enter Tryz.func43, Tryz.ntmps43
  go_wp2_with fail
  refine (HC.out _ HB.out).mono ?_
  rintro e w1 ⟨t1, rfl, ht1, hz1, hb1⟩
  have hs1 : t1.size <= 1000000 := by rw [hz1]; exact HL.out
  have HT1 := Lib.hid ht1; have HB1 := Lib.hid (HB.out.trans (hb1.mono HB.out.size)); clear ht1 hz1 hb1
  have g1 : ¬ 9223372036854775807 < 1 + t1.size := by omega
  have g2 : ¬ 9223372036854775807 < 1 + t1.size + 1 := by omega
  go_wp2_with fail
  go_ret
  exact WrR.mk' _ (by simp [HT1.out, within_]) HB1.out
theorem rrex_cat (p q : Pat) (lo hi wt : Nat) (hpl : p.text.length <= 100000) (hql : q.text.length <= 100000) (hp : RwSpec 43 p (within_ p.atom p.text)) (hq : RwSpec 43 q (within_ q.atom q.text))
  (w : World) (S : Nat -> Prop) (v : Value) (hT : TreeV true w S v (.mk 4 lo hi wt [] [p.tree, q.tree])) :
  Calls Tryz.prog 22 #[v] w (WrR w (within_ p.atom p.text ++ ([32] ++ within_ q.atom q.text))) := by
  obtain ⟨nm, A, n, c, rfl, hnm, hk⟩ := hT.six_
  obtain rfl : n = 2 := by have := hk.1; simpa using this.symm
  obtain ⟨h1, h2, h3, h4, h5⟩ := hk
  obtain ⟨g, o, rfl⟩ := h4.some (by omega)
  have hts := (h5 g o rfl (by omega)).2
  have hta := TreesAt.at_ hts 0 (by simp)
  simp only [List.getElem_cons_zero, Nat.zero_mul, Nat.add_zero] at hta
  obtain ⟨kp, lop, hip, wtp, nmp, Ap, np, cp, hcp, htp⟩ := hta.val6
  have htb := TreesAt.at_ hts 1 (by simp)
  simp only [List.getElem_cons_succ, List.getElem_cons_zero, Nat.one_mul, sz] at htb
  obtain ⟨kq, loq, hiq, wtq, nmq, Aq, nq, cq, hcq, htq⟩ := htb.val6
  have hqw := fun W (hb : Below w.heap.size w W) => hq W S _ (htq.bel (fun _ h => h) hb)
  have hlq := within_len q.atom q.text
  obtain ⟨Q, hQ⟩ : ∃ Q, within_ q.atom q.text = Q := ⟨_, rfl⟩
  rw [hQ] at hqw hlq ⊢
  have hQl : Q.length <= 100002 := by omega
  have hpw := fun W (hb : Below w.heap.size w W) => hp W S _ (htp.bel (fun _ h => h) hb)
  have hlp := within_len p.atom p.text
  obtain ⟨P, hP⟩ : ∃ P, within_ p.atom p.text = P := ⟨_, rfl⟩
  rw [hP] at hpw hlp ⊢
  have hPl : P.length <= 100002 := by omega
  have hB0 := BoxS.mk' w 46 #[.int .i64 4, .int .i64 lo, .int .i64 hi, .int .i64 wt, .string nm, .slice (some ⟨g, o, none⟩) 2 c]
  have hRf : ∀ W : World, BoxS w 46 #[.int .i64 4, .int .i64 lo, .int .i64 hi, .int .i64 wt, .string nm, .slice (some ⟨g, o, none⟩) 2 c] W -> (fun w' : World => w'.cell? ⟨w.heap.size, 1, none⟩ = some (.int .i64 lo) /\ w'.cell? ⟨w.heap.size, 2, none⟩ = some (.int .i64 hi) /\ w'.cell? ⟨w.heap.size, 3, none⟩ = some (.int .i64 wt) /\ w'.cell? ⟨w.heap.size, 5, none⟩ = some (.slice (some ⟨g, o, none⟩) 2 c) /\ w'.cell? ⟨g, o, none⟩ = some (.int .i64 kp) /\ w'.cell? ⟨g, o + 1, none⟩ = some (.int .i64 lop) /\ w'.cell? ⟨g, o + 2, none⟩ = some (.int .i64 hip) /\ w'.cell? ⟨g, o + 3, none⟩ = some (.int .i64 wtp) /\ w'.cell? ⟨g, o + 4, none⟩ = some (.string nmp) /\ w'.cell? ⟨g, o + 5, none⟩ = some (.slice Ap np cp) /\ w'.cell? ⟨g, o + 6, none⟩ = some (.int .i64 kq) /\ w'.cell? ⟨g, o + 6 + 1, none⟩ = some (.int .i64 loq) /\ w'.cell? ⟨g, o + 6 + 2, none⟩ = some (.int .i64 hiq) /\ w'.cell? ⟨g, o + 6 + 3, none⟩ = some (.int .i64 wtq) /\ w'.cell? ⟨g, o + 6 + 4, none⟩ = some (.string nmq) /\ w'.cell? ⟨g, o + 6 + 5, none⟩ = some (.slice Aq nq cq)) W := fun W hW => by
   have hc6 := (hcp.bel hW.below).at6
   have hd6 := (hcq.bel hW.below).at6
   exact ⟨Blk.cell hW.a 1, Blk.cell hW.a 2, Blk.cell hW.a 3, Blk.cell hW.a 5, hc6.1, hc6.2.1, hc6.2.2.1, hc6.2.2.2.1, hc6.2.2.2.2.1, hc6.2.2.2.2.2, hd6.1, hd6.2.1, hd6.2.2.1, hd6.2.2.2.1, hd6.2.2.2.2.1, hd6.2.2.2.2.2⟩
  unfold maxLen at h3
  have HPW := Lib.hid hpw; have HB0 := Lib.hid hB0; have HRF := Lib.hid hRf; have HPL := Lib.hid hPl; have HQW := Lib.hid hqw; have HQL := Lib.hid hQl
  clear hpw hB0 hRf hPl hlp hP hp hpl hts hta htp hcp hT h1 h4 h5 hnm hqw hQl hlq hQ hq hql htb htq hcq
  go_enter Tryz.func22, Tryz.ntmps22
  go_wp2_with fail
  have hB0d := HB0.out.drew
  refine region_x 12 (fun w' : World => w'.cell? ⟨w.heap.size, 1, none⟩ = some (.int .i64 lo) /\ w'.cell? ⟨w.heap.size, 2, none⟩ = some (.int .i64 hi) /\ w'.cell? ⟨w.heap.size, 3, none⟩ = some (.int .i64 wt) /\ w'.cell? ⟨w.heap.size, 5, none⟩ = some (.slice (some ⟨g, o, none⟩) 2 c) /\ w'.cell? ⟨g, o, none⟩ = some (.int .i64 kp) /\ w'.cell? ⟨g, o + 1, none⟩ = some (.int .i64 lop) /\ w'.cell? ⟨g, o + 2, none⟩ = some (.int .i64 hip) /\ w'.cell? ⟨g, o + 3, none⟩ = some (.int .i64 wtp) /\ w'.cell? ⟨g, o + 4, none⟩ = some (.string nmp) /\ w'.cell? ⟨g, o + 5, none⟩ = some (.slice Ap np cp) /\ w'.cell? ⟨g, o + 6, none⟩ = some (.int .i64 kq) /\ w'.cell? ⟨g, o + 6 + 1, none⟩ = some (.int .i64 loq) /\ w'.cell? ⟨g, o + 6 + 2, none⟩ = some (.int .i64 hiq) /\ w'.cell? ⟨g, o + 6 + 3, none⟩ = some (.int .i64 wtq) /\ w'.cell? ⟨g, o + 6 + 4, none⟩ = some (.string nmq) /\ w'.cell? ⟨g, o + 6 + 5, none⟩ = some (.slice Aq nq cq)) (by kernel_rfl) ?_
  have hS := HRF.out _ hB0d
  refine tkx (i := 0) (v := ?_) hS ?_ ?_
  rotate_left
  ·rintro w' ⟨b1, b2, b3, b5, x0, x1, x2, x3, x4, x5, y0, y1, y2, y3, y4, y5⟩
   go_simp
   try with_reducible rfl
  try simp only [Act.put, zq1, zq2, zq3, zq4, zq5, zq6]
  refine tkx (i := 1) (v := ?_) hS ?_ ?_
  rotate_left
  ·rintro w' ⟨b1, b2, b3, b5, x0, x1, x2, x3, x4, x5, y0, y1, y2, y3, y4, y5⟩
   go_simp
   try with_reducible rfl
  try simp only [Act.put, zq1, zq2, zq3, zq4, zq5, zq6]
  refine tkx (i := 2) (v := ?_) hS ?_ ?_
  rotate_left
  ·rintro w' ⟨b1, b2, b3, b5, x0, x1, x2, x3, x4, x5, y0, y1, y2, y3, y4, y5⟩
   go_simp
   try with_reducible rfl
  try simp only [Act.put, zq1, zq2, zq3, zq4, zq5, zq6]
  refine tkx (i := 3) (v := ?_) hS ?_ ?_
  rotate_left
  ·rintro w' ⟨b1, b2, b3, b5, x0, x1, x2, x3, x4, x5, y0, y1, y2, y3, y4, y5⟩
   go_simp
   try with_reducible rfl
  try simp only [Act.put, zq1, zq2, zq3, zq4, zq5, zq6]
  refine tkx (i := 6) (v := ?_) hS ?_ ?_
  rotate_left
  ·rintro w' ⟨b1, b2, b3, b5, x0, x1, x2, x3, x4, x5, y0, y1, y2, y3, y4, y5⟩
   go_simp
   try with_reducible rfl
  try simp only [Act.put, zq1, zq2, zq3, zq4, zq5, zq6]
  refine tkx (i := 7) (v := ?_) hS ?_ ?_
  rotate_left
  ·rintro w' ⟨b1, b2, b3, b5, x0, x1, x2, x3, x4, x5, y0, y1, y2, y3, y4, y5⟩
   go_simp
   try with_reducible rfl
  try simp only [Act.put, zq1, zq2, zq3, zq4, zq5, zq6]
  refine tkx (i := 8) (v := ?_) hS ?_ ?_
  rotate_left
  ·rintro w' ⟨b1, b2, b3, b5, x0, x1, x2, x3, x4, x5, y0, y1, y2, y3, y4, y5⟩
   go_simp
   try with_reducible rfl
  try simp only [Act.put, zq1, zq2, zq3, zq4, zq5, zq6]
  refine tkx (i := 9) (v := ?_) hS ?_ ?_
  rotate_left
  ·rintro w' ⟨b1, b2, b3, b5, x0, x1, x2, x3, x4, x5, y0, y1, y2, y3, y4, y5⟩
   go_simp
   try with_reducible rfl
  try simp only [Act.put, zq1, zq2, zq3, zq4, zq5, zq6]
  refine anyX_g (i := 4) (by kernel_rfl) (by decide) rfl (by rfl) ?_
  intro K hK
  try simp only [zq1, zq2, zq3]
  refine wp_enterE #[.agg #[.int .i64 kp, .int .i64 lop, .int .i64 hip, .int .i64 wtp, .string nmp, .slice Ap np cp]] Tryz.func43 (by kernel_rfl) (by kernel_rfl) ?_ (HPW.out _ hB0d.below) ?_
  ·go_simp
  rintro e w1 ⟨t1, rfl, ht1, hz1, hb1⟩
  refine ⟨_, rfl, ?_⟩
  have hR1 := hB0d.bel hb1
  have hS1 := HRF.out _ hR1
  have hs1 : t1.size <= 100002 := by rw [hz1]; exact HPL.out
  have HT1 := Lib.hid ht1; clear ht1 hz1 hb1
  refine hK _ _ hS1 ?_
  clear hK
  try simp only [Act.put, zq1, zq2, zq3, zq4, zq5, zq6]
  have g1 : ¬ 9223372036854775807 < t1.size + 1 := by omega
  refine tkx (i := 5) (v := ?_) hS1 ?_ ?_
  rotate_left
  ·rintro w' ⟨b1, b2, b3, b5, x0, x1, x2, x3, x4, x5, y0, y1, y2, y3, y4, y5⟩
   go_simp
   try with_reducible rfl
  try simp only [Act.put, zq1, zq2, zq3, zq4, zq5, zq6]
  refine anyX_g (i := 10) (by kernel_rfl) (by decide) rfl (by rfl) ?_
  intro K hK
  try simp only [zq1, zq2, zq3]
  refine wp_enterE #[.agg #[.int .i64 kq, .int .i64 loq, .int .i64 hiq, .int .i64 wtq, .string nmq, .slice Aq nq cq]] Tryz.func43 (by kernel_rfl) (by kernel_rfl) ?_ (HQW.out _ hR1.below) ?_
  ·go_simp
  rintro e w2 ⟨t2, rfl, ht2, hz2, hb2⟩
  refine ⟨_, rfl, ?_⟩
  have hR2 := hR1.bel hb2
  have hS2 := HRF.out _ hR2
  have hs2 : t2.size <= 100002 := by rw [hz2]; exact HQL.out
  have HT2 := Lib.hid ht2; clear ht2 hz2 hb2
  refine hK _ _ hS2 ?_
  clear hK
  try simp only [Act.put, zq1, zq2, zq3, zq4, zq5, zq6]
  have g2 : ¬ 9223372036854775807 < t1.size + 1 + t2.size := by omega
  refine tkx (i := 11) (v := ?_) hS2 ?_ ?_
  rotate_left
  ·rintro w' ⟨b1, b2, b3, b5, x0, x1, x2, x3, x4, x5, y0, y1, y2, y3, y4, y5⟩
   go_simp
   try with_reducible rfl
  try simp only [Act.put, zq1, zq2, zq3, zq4, zq5, zq6]
  have HE := Lib.hid hR2.below
  clear hS hS1 hS2 hR1 hR2 hB0d
  refine anyX_last (by kernel_rfl) (by kernel_rfl) rfl rfl ?_
  try simp only [zq1, zq2, zq3]
  go_simp
  try apply_assumption
  go_wp2_with fail
  go_ret
  exact WrR.mk' _ (by simp [HT1.out, HT2.out]) HE.out
theorem rrex_alt (p q : Pat) (lo hi wt : Nat) (hpl : p.text.length <= 100000) (hql : q.text.length <= 100000) (hp : RwSpec 43 p (within_ p.atom p.text)) (hq : RwSpec 43 q (within_ q.atom q.text))
  (w : World) (S : Nat -> Prop) (v : Value) (hT : TreeV true w S v (.mk 5 lo hi wt [] [p.tree, q.tree])) :
  Calls Tryz.prog 22 #[v] w (WrR w (within_ p.atom p.text ++ ([32, 124, 32] ++ within_ q.atom q.text))) := by
  obtain ⟨nm, A, n, c, rfl, hnm, hk⟩ := hT.six_
  obtain rfl : n = 2 := by have := hk.1; simpa using this.symm
  obtain ⟨h1, h2, h3, h4, h5⟩ := hk
  obtain ⟨g, o, rfl⟩ := h4.some (by omega)
  have hts := (h5 g o rfl (by omega)).2
  have hta := TreesAt.at_ hts 0 (by simp)
  simp only [List.getElem_cons_zero, Nat.zero_mul, Nat.add_zero] at hta
  obtain ⟨kp, lop, hip, wtp, nmp, Ap, np, cp, hcp, htp⟩ := hta.val6
  have htb := TreesAt.at_ hts 1 (by simp)
  simp only [List.getElem_cons_succ, List.getElem_cons_zero, Nat.one_mul, sz] at htb
  obtain ⟨kq, loq, hiq, wtq, nmq, Aq, nq, cq, hcq, htq⟩ := htb.val6
  have hqw := fun W (hb : Below w.heap.size w W) => hq W S _ (htq.bel (fun _ h => h) hb)
  have hlq := within_len q.atom q.text
  obtain ⟨Q, hQ⟩ : ∃ Q, within_ q.atom q.text = Q := ⟨_, rfl⟩
  rw [hQ] at hqw hlq ⊢
  have hQl : Q.length <= 100002 := by omega
  have hpw := fun W (hb : Below w.heap.size w W) => hp W S _ (htp.bel (fun _ h => h) hb)
  have hlp := within_len p.atom p.text
  obtain ⟨P, hP⟩ : ∃ P, within_ p.atom p.text = P := ⟨_, rfl⟩
  rw [hP] at hpw hlp ⊢
  have hPl : P.length <= 100002 := by omega
  have hB0 := BoxS.mk' w 46 #[.int .i64 5, .int .i64 lo, .int .i64 hi, .int .i64 wt, .string nm, .slice (some ⟨g, o, none⟩) 2 c]
  have hRf : ∀ W : World, BoxS w 46 #[.int .i64 5, .int .i64 lo, .int .i64 hi, .int .i64 wt, .string nm, .slice (some ⟨g, o, none⟩) 2 c] W -> (fun w' : World => w'.cell? ⟨w.heap.size, 1, none⟩ = some (.int .i64 lo) /\ w'.cell? ⟨w.heap.size, 2, none⟩ = some (.int .i64 hi) /\ w'.cell? ⟨w.heap.size, 3, none⟩ = some (.int .i64 wt) /\ w'.cell? ⟨w.heap.size, 5, none⟩ = some (.slice (some ⟨g, o, none⟩) 2 c) /\ w'.cell? ⟨g, o, none⟩ = some (.int .i64 kp) /\ w'.cell? ⟨g, o + 1, none⟩ = some (.int .i64 lop) /\ w'.cell? ⟨g, o + 2, none⟩ = some (.int .i64 hip) /\ w'.cell? ⟨g, o + 3, none⟩ = some (.int .i64 wtp) /\ w'.cell? ⟨g, o + 4, none⟩ = some (.string nmp) /\ w'.cell? ⟨g, o + 5, none⟩ = some (.slice Ap np cp) /\ w'.cell? ⟨g, o + 6, none⟩ = some (.int .i64 kq) /\ w'.cell? ⟨g, o + 6 + 1, none⟩ = some (.int .i64 loq) /\ w'.cell? ⟨g, o + 6 + 2, none⟩ = some (.int .i64 hiq) /\ w'.cell? ⟨g, o + 6 + 3, none⟩ = some (.int .i64 wtq) /\ w'.cell? ⟨g, o + 6 + 4, none⟩ = some (.string nmq) /\ w'.cell? ⟨g, o + 6 + 5, none⟩ = some (.slice Aq nq cq)) W := fun W hW => by
   have hc6 := (hcp.bel hW.below).at6
   have hd6 := (hcq.bel hW.below).at6
   exact ⟨Blk.cell hW.a 1, Blk.cell hW.a 2, Blk.cell hW.a 3, Blk.cell hW.a 5, hc6.1, hc6.2.1, hc6.2.2.1, hc6.2.2.2.1, hc6.2.2.2.2.1, hc6.2.2.2.2.2, hd6.1, hd6.2.1, hd6.2.2.1, hd6.2.2.2.1, hd6.2.2.2.2.1, hd6.2.2.2.2.2⟩
  unfold maxLen at h3
  have HPW := Lib.hid hpw; have HB0 := Lib.hid hB0; have HRF := Lib.hid hRf; have HPL := Lib.hid hPl; have HQW := Lib.hid hqw; have HQL := Lib.hid hQl
  clear hpw hB0 hRf hPl hlp hP hp hpl hts hta htp hcp hT h1 h4 h5 hnm hqw hQl hlq hQ hq hql htb htq hcq
  go_enter Tryz.func22, Tryz.ntmps22
  go_wp2_with fail
  have hB0d := HB0.out.drew
  refine region_x 12 (fun w' : World => w'.cell? ⟨w.heap.size, 1, none⟩ = some (.int .i64 lo) /\ w'.cell? ⟨w.heap.size, 2, none⟩ = some (.int .i64 hi) /\ w'.cell? ⟨w.heap.size, 3, none⟩ = some (.int .i64 wt) /\ w'.cell? ⟨w.heap.size, 5, none⟩ = some (.slice (some ⟨g, o, none⟩) 2 c) /\ w'.cell? ⟨g, o, none⟩ = some (.int .i64 kp) /\ w'.cell? ⟨g, o + 1, none⟩ = some (.int .i64 lop) /\ w'.cell? ⟨g, o + 2, none⟩ = some (.int .i64 hip) /\ w'.cell? ⟨g, o + 3, none⟩ = some (.int .i64 wtp) /\ w'.cell? ⟨g, o + 4, none⟩ = some (.string nmp) /\ w'.cell? ⟨g, o + 5, none⟩ = some (.slice Ap np cp) /\ w'.cell? ⟨g, o + 6, none⟩ = some (.int .i64 kq) /\ w'.cell? ⟨g, o + 6 + 1, none⟩ = some (.int .i64 loq) /\ w'.cell? ⟨g, o + 6 + 2, none⟩ = some (.int .i64 hiq) /\ w'.cell? ⟨g, o + 6 + 3, none⟩ = some (.int .i64 wtq) /\ w'.cell? ⟨g, o + 6 + 4, none⟩ = some (.string nmq) /\ w'.cell? ⟨g, o + 6 + 5, none⟩ = some (.slice Aq nq cq)) (by kernel_rfl) ?_
  have hS := HRF.out _ hB0d
  refine tkx (i := 0) (v := ?_) hS ?_ ?_
  rotate_left
  ·rintro w' ⟨b1, b2, b3, b5, x0, x1, x2, x3, x4, x5, y0, y1, y2, y3, y4, y5⟩
   go_simp
   try with_reducible rfl
  try simp only [Act.put, zq1, zq2, zq3, zq4, zq5, zq6]
  refine tkx (i := 1) (v := ?_) hS ?_ ?_
  rotate_left
  ·rintro w' ⟨b1, b2, b3, b5, x0, x1, x2, x3, x4, x5, y0, y1, y2, y3, y4, y5⟩
   go_simp
   try with_reducible rfl
  try simp only [Act.put, zq1, zq2, zq3, zq4, zq5, zq6]
  refine tkx (i := 2) (v := ?_) hS ?_ ?_
  rotate_left
  ·rintro w' ⟨b1, b2, b3, b5, x0, x1, x2, x3, x4, x5, y0, y1, y2, y3, y4, y5⟩
   go_simp
   try with_reducible rfl
  try simp only [Act.put, zq1, zq2, zq3, zq4, zq5, zq6]
  refine tkx (i := 3) (v := ?_) hS ?_ ?_
  rotate_left
  ·rintro w' ⟨b1, b2, b3, b5, x0, x1, x2, x3, x4, x5, y0, y1, y2, y3, y4, y5⟩
   go_simp
   try with_reducible rfl
  try simp only [Act.put, zq1, zq2, zq3, zq4, zq5, zq6]
  refine tkx (i := 6) (v := ?_) hS ?_ ?_
  rotate_left
  ·rintro w' ⟨b1, b2, b3, b5, x0, x1, x2, x3, x4, x5, y0, y1, y2, y3, y4, y5⟩
   go_simp
   try with_reducible rfl
  try simp only [Act.put, zq1, zq2, zq3, zq4, zq5, zq6]
  refine tkx (i := 7) (v := ?_) hS ?_ ?_
  rotate_left
  ·rintro w' ⟨b1, b2, b3, b5, x0, x1, x2, x3, x4, x5, y0, y1, y2, y3, y4, y5⟩
   go_simp
   try with_reducible rfl
  try simp only [Act.put, zq1, zq2, zq3, zq4, zq5, zq6]
  refine tkx (i := 8) (v := ?_) hS ?_ ?_
  rotate_left
  ·rintro w' ⟨b1, b2, b3, b5, x0, x1, x2, x3, x4, x5, y0, y1, y2, y3, y4, y5⟩
   go_simp
   try with_reducible rfl
  try simp only [Act.put, zq1, zq2, zq3, zq4, zq5, zq6]
  refine tkx (i := 9) (v := ?_) hS ?_ ?_
  rotate_left
  ·rintro w' ⟨b1, b2, b3, b5, x0, x1, x2, x3, x4, x5, y0, y1, y2, y3, y4, y5⟩
   go_simp
   try with_reducible rfl
  try simp only [Act.put, zq1, zq2, zq3, zq4, zq5, zq6]
  refine anyX_g (i := 4) (by kernel_rfl) (by decide) rfl (by rfl) ?_
  intro K hK
  try simp only [zq1, zq2, zq3]
  refine wp_enterE #[.agg #[.int .i64 kp, .int .i64 lop, .int .i64 hip, .int .i64 wtp, .string nmp, .slice Ap np cp]] Tryz.func43 (by kernel_rfl) (by kernel_rfl) ?_ (HPW.out _ hB0d.below) ?_
  ·go_simp
  rintro e w1 ⟨t1, rfl, ht1, hz1, hb1⟩
  refine ⟨_, rfl, ?_⟩
  have hR1 := hB0d.bel hb1
  have hS1 := HRF.out _ hR1
  have hs1 : t1.size <= 100002 := by rw [hz1]; exact HPL.out
  have HT1 := Lib.hid ht1; clear ht1 hz1 hb1
  refine hK _ _ hS1 ?_
  clear hK
  try simp only [Act.put, zq1, zq2, zq3, zq4, zq5, zq6]
  have g1 : ¬ 9223372036854775807 < t1.size + 3 := by omega
  refine tkx (i := 5) (v := ?_) hS1 ?_ ?_
  rotate_left
  ·rintro w' ⟨b1, b2, b3, b5, x0, x1, x2, x3, x4, x5, y0, y1, y2, y3, y4, y5⟩
   go_simp
   try with_reducible rfl
  try simp only [Act.put, zq1, zq2, zq3, zq4, zq5, zq6]
  refine anyX_g (i := 10) (by kernel_rfl) (by decide) rfl (by rfl) ?_
  intro K hK
  try simp only [zq1, zq2, zq3]
  refine wp_enterE #[.agg #[.int .i64 kq, .int .i64 loq, .int .i64 hiq, .int .i64 wtq, .string nmq, .slice Aq nq cq]] Tryz.func43 (by kernel_rfl) (by kernel_rfl) ?_ (HQW.out _ hR1.below) ?_
  ·go_simp
  rintro e w2 ⟨t2, rfl, ht2, hz2, hb2⟩
  refine ⟨_, rfl, ?_⟩
  have hR2 := hR1.bel hb2
  have hS2 := HRF.out _ hR2
  have hs2 : t2.size <= 100002 := by rw [hz2]; exact HQL.out
  have HT2 := Lib.hid ht2; clear ht2 hz2 hb2
  refine hK _ _ hS2 ?_
  clear hK
  try simp only [Act.put, zq1, zq2, zq3, zq4, zq5, zq6]
  have g2 : ¬ 9223372036854775807 < t1.size + 3 + t2.size := by omega
  refine tkx (i := 11) (v := ?_) hS2 ?_ ?_
  rotate_left
  ·rintro w' ⟨b1, b2, b3, b5, x0, x1, x2, x3, x4, x5, y0, y1, y2, y3, y4, y5⟩
   go_simp
   try with_reducible rfl
  try simp only [Act.put, zq1, zq2, zq3, zq4, zq5, zq6]
  have HE := Lib.hid hR2.below
  clear hS hS1 hS2 hR1 hR2 hB0d
  refine anyX_last (by kernel_rfl) (by kernel_rfl) rfl rfl ?_
  try simp only [zq1, zq2, zq3]
  go_simp
  try apply_assumption
  go_wp2_with fail
  go_ret
  exact WrR.mk' _ (by simp [HT1.out, HT2.out]) HE.out
theorem rrex_star (p : Pat) (lo hi wt : Nat) (hpl : p.text.length <= 100000) (hp : RwSpec 43 p (within_ p.atom p.text))
  (w : World) (S : Nat -> Prop) (v : Value) (hT : TreeV true w S v (.mk 6 lo hi wt [] [p.tree])) :
  Calls Tryz.prog 22 #[v] w (WrR w (within_ p.atom p.text ++ [42])) := by
  obtain ⟨nm, A, n, c, rfl, hnm, hk⟩ := hT.six_
  obtain rfl : n = 1 := by have := hk.1; simpa using this.symm
  obtain ⟨h1, h2, h3, h4, h5⟩ := hk
  obtain ⟨g, o, rfl⟩ := h4.some (by omega)
  have hts := (h5 g o rfl (by omega)).2
  have hta := TreesAt.at_ hts 0 (by simp)
  simp only [List.getElem_cons_zero, Nat.zero_mul, Nat.add_zero] at hta
  obtain ⟨kp, lop, hip, wtp, nmp, Ap, np, cp, hcp, htp⟩ := hta.val6
  have hpw := fun W (hb : Below w.heap.size w W) => hp W S _ (htp.bel (fun _ h => h) hb)
  have hlp := within_len p.atom p.text
  obtain ⟨P, hP⟩ : ∃ P, within_ p.atom p.text = P := ⟨_, rfl⟩
  rw [hP] at hpw hlp ⊢
  have hPl : P.length <= 100002 := by omega
  have hB0 := BoxS.mk' w 46 #[.int .i64 6, .int .i64 lo, .int .i64 hi, .int .i64 wt, .string nm, .slice (some ⟨g, o, none⟩) 1 c]
  have hRf : ∀ W : World, BoxS w 46 #[.int .i64 6, .int .i64 lo, .int .i64 hi, .int .i64 wt, .string nm, .slice (some ⟨g, o, none⟩) 1 c] W -> (fun w' : World => w'.cell? ⟨w.heap.size, 1, none⟩ = some (.int .i64 lo) /\ w'.cell? ⟨w.heap.size, 2, none⟩ = some (.int .i64 hi) /\ w'.cell? ⟨w.heap.size, 3, none⟩ = some (.int .i64 wt) /\ w'.cell? ⟨w.heap.size, 5, none⟩ = some (.slice (some ⟨g, o, none⟩) 1 c) /\ w'.cell? ⟨g, o, none⟩ = some (.int .i64 kp) /\ w'.cell? ⟨g, o + 1, none⟩ = some (.int .i64 lop) /\ w'.cell? ⟨g, o + 2, none⟩ = some (.int .i64 hip) /\ w'.cell? ⟨g, o + 3, none⟩ = some (.int .i64 wtp) /\ w'.cell? ⟨g, o + 4, none⟩ = some (.string nmp) /\ w'.cell? ⟨g, o + 5, none⟩ = some (.slice Ap np cp)) W := fun W hW => by
   have hc6 := (hcp.bel hW.below).at6
   exact ⟨Blk.cell hW.a 1, Blk.cell hW.a 2, Blk.cell hW.a 3, Blk.cell hW.a 5, hc6.1, hc6.2.1, hc6.2.2.1, hc6.2.2.2.1, hc6.2.2.2.2.1, hc6.2.2.2.2.2⟩
  unfold maxLen at h3
  have HPW := Lib.hid hpw; have HB0 := Lib.hid hB0; have HRF := Lib.hid hRf; have HPL := Lib.hid hPl
  clear hpw hB0 hRf hPl hlp hP hp hpl hts hta htp hcp hT h1 h4 h5 hnm
  obtain ⟨b1, b2, b3, b5, x0, x1, x2, x3, x4, x5⟩ := HRF.out _ HB0.out
  go_enter Tryz.func22, Tryz.ntmps22
  go_wp2_with fail
  refine (HPW.out _ HB0.out.below).mono ?_
  rintro e w1 ⟨t1, rfl, ht1, hz1, hb1⟩
  have hs1 : t1.size <= 100002 := by rw [hz1]; exact HPL.out
  have HT1 := Lib.hid ht1; have HE := Lib.hid (HB0.out.bel hb1).below
  have g1 : ¬ 9223372036854775807 < t1.size + 1 := by omega
  clear ht1 hz1 hb1 b1 b2 b3 b5 x0 x1 x2 x3 x4 x5
  go_wp2_with fail
  go_ret
  exact WrR.mk' _ (by simp [HT1.out]) HE.out
theorem rrex_times (p : Pat) (lo hi wt : Nat) (hlo : lo < 100) (hhi : hi < 100) (hpl : p.text.length <= 100000) (hp : RwSpec 43 p (within_ p.atom p.text))
  (w : World) (S : Nat -> Prop) (v : Value) (hT : TreeV true w S v (.mk 7 lo hi wt [] [p.tree])) :
  Calls Tryz.prog 22 #[v] w (WrR w (within_ p.atom p.text ++ 123 :: (Lib.decDigits lo ++ 44 :: (Lib.decDigits hi ++ [125])))) := by
  obtain ⟨nm, A, n, c, rfl, hnm, hk⟩ := hT.six_
  obtain rfl : n = 1 := by have := hk.1; simpa using this.symm
  obtain ⟨h1, h2, h3, h4, h5⟩ := hk
  obtain ⟨g, o, rfl⟩ := h4.some (by omega)
  have hts := (h5 g o rfl (by omega)).2
  have hta := TreesAt.at_ hts 0 (by simp)
  simp only [List.getElem_cons_zero, Nat.zero_mul, Nat.add_zero] at hta
  obtain ⟨kp, lop, hip, wtp, nmp, Ap, np, cp, hcp, htp⟩ := hta.val6
  have hpw := fun W (hb : Below w.heap.size w W) => hp W S _ (htp.bel (fun _ h => h) hb)
  have hlp := within_len p.atom p.text
  obtain ⟨P, hP⟩ : ∃ P, within_ p.atom p.text = P := ⟨_, rfl⟩
  rw [hP] at hpw hlp ⊢
  have hPl : P.length <= 100002 := by omega
  have hB0 := BoxS.mk' w 46 #[.int .i64 7, .int .i64 lo, .int .i64 hi, .int .i64 wt, .string nm, .slice (some ⟨g, o, none⟩) 1 c]
  have hRf : ∀ W : World, BoxS w 46 #[.int .i64 7, .int .i64 lo, .int .i64 hi, .int .i64 wt, .string nm, .slice (some ⟨g, o, none⟩) 1 c] W -> (fun w' : World => w'.cell? ⟨w.heap.size, 1, none⟩ = some (.int .i64 lo) /\ w'.cell? ⟨w.heap.size, 2, none⟩ = some (.int .i64 hi) /\ w'.cell? ⟨w.heap.size, 3, none⟩ = some (.int .i64 wt) /\ w'.cell? ⟨w.heap.size, 5, none⟩ = some (.slice (some ⟨g, o, none⟩) 1 c) /\ w'.cell? ⟨g, o, none⟩ = some (.int .i64 kp) /\ w'.cell? ⟨g, o + 1, none⟩ = some (.int .i64 lop) /\ w'.cell? ⟨g, o + 2, none⟩ = some (.int .i64 hip) /\ w'.cell? ⟨g, o + 3, none⟩ = some (.int .i64 wtp) /\ w'.cell? ⟨g, o + 4, none⟩ = some (.string nmp) /\ w'.cell? ⟨g, o + 5, none⟩ = some (.slice Ap np cp)) W := fun W hW => by
   have hc6 := (hcp.bel hW.below).at6
   exact ⟨Blk.cell hW.a 1, Blk.cell hW.a 2, Blk.cell hW.a 3, Blk.cell hW.a 5, hc6.1, hc6.2.1, hc6.2.2.1, hc6.2.2.2.1, hc6.2.2.2.2.1, hc6.2.2.2.2.2⟩
  unfold maxLen at h3
  have HPW := Lib.hid hpw; have HB0 := Lib.hid hB0; have HRF := Lib.hid hRf; have HPL := Lib.hid hPl
  clear hpw hB0 hRf hPl hlp hP hp hpl hts hta htp hcp hT h1 h4 h5 hnm
  have d1 := fun W => rdigits_any lo W hlo
  have d2 := fun W => rdigits_any hi W hhi
  have e1 := dec_len2 lo hlo
  have e2 := dec_len2 hi hhi
  generalize Lib.decDigits lo = L1 at *
  generalize Lib.decDigits hi = L2 at *
  have D1 := Lib.hid d1; have D2 := Lib.hid d2; have E1 := Lib.hid e1; have E2 := Lib.hid e2
  clear d1 d2 e1 e2
  obtain ⟨lv, hlv⟩ : ∃ x : Int, (lo : Int) = x := ⟨_, rfl⟩
  obtain ⟨hv, hhv⟩ : ∃ x : Int, (hi : Int) = x := ⟨_, rfl⟩
  obtain ⟨wv, hwv⟩ : ∃ x : Int, (wt : Int) = x := ⟨_, rfl⟩
  have D1' := D1.out; have D2' := D2.out; have HRF' := HRF.out; have HB0' := HB0.out
  rw [hlv] at D1' HRF' HB0' ⊢
  rw [hhv] at D2' HRF' HB0' ⊢
  rw [hwv] at HRF' HB0' ⊢
  clear D1 D2 HRF HB0 hlv hhv hwv
  have D1 := Lib.hid D1'; have D2 := Lib.hid D2'; have HRF := Lib.hid HRF'; have HB0 := Lib.hid HB0'
  clear D1' D2' HRF' HB0'
  go_enter Tryz.func22, Tryz.ntmps22
  go_wp2_with fail
  have hB0d := HB0.out.drew
  refine region_x 16 (fun w' : World => w'.cell? ⟨w.heap.size, 1, none⟩ = some (.int .i64 lv) /\ w'.cell? ⟨w.heap.size, 2, none⟩ = some (.int .i64 hv) /\ w'.cell? ⟨w.heap.size, 3, none⟩ = some (.int .i64 wv) /\ w'.cell? ⟨w.heap.size, 5, none⟩ = some (.slice (some ⟨g, o, none⟩) 1 c) /\ w'.cell? ⟨g, o, none⟩ = some (.int .i64 kp) /\ w'.cell? ⟨g, o + 1, none⟩ = some (.int .i64 lop) /\ w'.cell? ⟨g, o + 2, none⟩ = some (.int .i64 hip) /\ w'.cell? ⟨g, o + 3, none⟩ = some (.int .i64 wtp) /\ w'.cell? ⟨g, o + 4, none⟩ = some (.string nmp) /\ w'.cell? ⟨g, o + 5, none⟩ = some (.slice Ap np cp)) (by kernel_rfl) ?_
  have hS := HRF.out _ hB0d
  refine tkx (i := 0) (v := ?_) hS ?_ ?_
  rotate_left
  ·rintro w' ⟨b1, b2, b3, b5, x0, x1, x2, x3, x4, x5⟩
   go_simp
   try with_reducible rfl
  try simp only [Act.put, zq1, zq2, zq3, zq4, zq5, zq6]
  refine tkx (i := 1) (v := ?_) hS ?_ ?_
  rotate_left
  ·rintro w' ⟨b1, b2, b3, b5, x0, x1, x2, x3, x4, x5⟩
   go_simp
   try with_reducible rfl
  try simp only [Act.put, zq1, zq2, zq3, zq4, zq5, zq6]
  refine tkx (i := 2) (v := ?_) hS ?_ ?_
  rotate_left
  ·rintro w' ⟨b1, b2, b3, b5, x0, x1, x2, x3, x4, x5⟩
   go_simp
   try with_reducible rfl
  try simp only [Act.put, zq1, zq2, zq3, zq4, zq5, zq6]
  refine tkx (i := 3) (v := ?_) hS ?_ ?_
  rotate_left
  ·rintro w' ⟨b1, b2, b3, b5, x0, x1, x2, x3, x4, x5⟩
   go_simp
   try with_reducible rfl
  try simp only [Act.put, zq1, zq2, zq3, zq4, zq5, zq6]
  refine tkx (i := 6) (v := ?_) hS ?_ ?_
  rotate_left
  ·rintro w' ⟨b1, b2, b3, b5, x0, x1, x2, x3, x4, x5⟩
   go_simp
   try with_reducible rfl
  try simp only [Act.put, zq1, zq2, zq3, zq4, zq5, zq6]
  refine tkx (i := 7) (v := ?_) hS ?_ ?_
  rotate_left
  ·rintro w' ⟨b1, b2, b3, b5, x0, x1, x2, x3, x4, x5⟩
   go_simp
   try with_reducible rfl
  try simp only [Act.put, zq1, zq2, zq3, zq4, zq5, zq6]
  refine tkx (i := 11) (v := ?_) hS ?_ ?_
  rotate_left
  ·rintro w' ⟨b1, b2, b3, b5, x0, x1, x2, x3, x4, x5⟩
   go_simp
   try with_reducible rfl
  try simp only [Act.put, zq1, zq2, zq3, zq4, zq5, zq6]
  refine tkx (i := 12) (v := ?_) hS ?_ ?_
  rotate_left
  ·rintro w' ⟨b1, b2, b3, b5, x0, x1, x2, x3, x4, x5⟩
   go_simp
   try with_reducible rfl
  try simp only [Act.put, zq1, zq2, zq3, zq4, zq5, zq6]
  refine anyX_g (i := 4) (by kernel_rfl) (by decide) rfl (by rfl) ?_
  intro K hK
  try simp only [zq1, zq2, zq3]
  refine wp_enterE #[.agg #[.int .i64 kp, .int .i64 lop, .int .i64 hip, .int .i64 wtp, .string nmp, .slice Ap np cp]] Tryz.func43 (by kernel_rfl) (by kernel_rfl) ?_ (HPW.out _ hB0d.below) ?_
  ·go_simp
  rintro e w1 ⟨t1, rfl, ht1, hz1, hb1⟩
  refine ⟨_, rfl, ?_⟩
  have hR1 := hB0d.bel hb1
  have hS1 := HRF.out _ hR1
  have hs1 : t1.size <= 100002 := by rw [hz1]; exact HPL.out
  have HT1 := Lib.hid ht1; clear ht1 hz1 hb1
  refine hK _ _ hS1 ?_
  clear hK
  try simp only [Act.put, zq1, zq2, zq3, zq4, zq5, zq6]
  have g1 : ¬ 9223372036854775807 < t1.size + 1 := by omega
  refine tkx (i := 5) (v := ?_) hS1 ?_ ?_
  rotate_left
  ·rintro w' ⟨b1, b2, b3, b5, x0, x1, x2, x3, x4, x5⟩
   go_simp
   try with_reducible rfl
  try simp only [Act.put, zq1, zq2, zq3, zq4, zq5, zq6]
  refine anyX_g (i := 8) (by kernel_rfl) (by decide) rfl (by rfl) ?_
  intro K hK
  try simp only [zq1, zq2, zq3]
  refine wp_enterE #[.int .i64 lv] Tryz.func36 (by kernel_rfl) (by kernel_rfl) ?_ (D1.out _) ?_
  ·go_simp
  rintro e w2 ⟨t2, rfl, ht2, hz2, hb2⟩
  refine ⟨_, rfl, ?_⟩
  have hR2 := hR1.bel hb2
  have hS2 := HRF.out _ hR2
  have hs2 : t2.size <= 2 := by rw [hz2]; exact E1.out
  have HT2 := Lib.hid ht2; clear ht2 hz2 hb2
  refine hK _ _ hS2 ?_
  clear hK
  try simp only [Act.put, zq1, zq2, zq3, zq4, zq5, zq6]
  have g2 : ¬ 9223372036854775807 < t1.size + 1 + t2.size := by omega
  have g3 : ¬ 9223372036854775807 < t1.size + 1 + t2.size + 1 := by omega
  refine tkx (i := 9) (v := ?_) hS2 ?_ ?_
  rotate_left
  ·rintro w' ⟨b1, b2, b3, b5, x0, x1, x2, x3, x4, x5⟩
   go_simp
   try with_reducible rfl
  try simp only [Act.put, zq1, zq2, zq3, zq4, zq5, zq6]
  refine tkx (i := 10) (v := ?_) hS2 ?_ ?_
  rotate_left
  ·rintro w' ⟨b1, b2, b3, b5, x0, x1, x2, x3, x4, x5⟩
   go_simp
   try with_reducible rfl
  try simp only [Act.put, zq1, zq2, zq3, zq4, zq5, zq6]
  refine anyX_g (i := 13) (by kernel_rfl) (by decide) rfl (by rfl) ?_
  intro K hK
  try simp only [zq1, zq2, zq3]
  refine wp_enterE #[.int .i64 hv] Tryz.func36 (by kernel_rfl) (by kernel_rfl) ?_ (D2.out _) ?_
  ·go_simp
  rintro e w3 ⟨t3, rfl, ht3, hz3, hb3⟩
  refine ⟨_, rfl, ?_⟩
  have hR3 := hR2.bel hb3
  have hS3 := HRF.out _ hR3
  have hs3 : t3.size <= 2 := by rw [hz3]; exact E2.out
  have HT3 := Lib.hid ht3; clear ht3 hz3 hb3
  refine hK _ _ hS3 ?_
  clear hK
  try simp only [Act.put, zq1, zq2, zq3, zq4, zq5, zq6]
  have g4 : ¬ 9223372036854775807 < t1.size + 1 + t2.size + 1 + t3.size := by omega
  have g5 : ¬ 9223372036854775807 < t1.size + 1 + t2.size + 1 + t3.size + 1 := by omega
  refine tkx (i := 14) (v := ?_) hS3 ?_ ?_
  rotate_left
  ·rintro w' ⟨b1, b2, b3, b5, x0, x1, x2, x3, x4, x5⟩
   go_simp
   try with_reducible rfl
  try simp only [Act.put, zq1, zq2, zq3, zq4, zq5, zq6]
  refine tkx (i := 15) (v := ?_) hS3 ?_ ?_
  rotate_left
  ·rintro w' ⟨b1, b2, b3, b5, x0, x1, x2, x3, x4, x5⟩
   go_simp
   try with_reducible rfl
  try simp only [Act.put, zq1, zq2, zq3, zq4, zq5, zq6]
  have HE := Lib.hid hR3.below
  clear hS hS1 hS2 hS3 hR1 hR2 hR3 hB0d
  refine anyX_last (by kernel_rfl) (by kernel_rfl) rfl rfl ?_
  try simp only [zq1, zq2, zq3]
  go_simp
  try apply_assumption
  go_wp2_with fail
  go_ret
  exact WrR.mk' _ (by simp [HT1.out, HT2.out, HT3.out]) HE.out
theorem rrex_weight (p : Pat) (lo hi wt : Nat) (hwt : wt < 100) (hpl : p.text.length <= 100000) (hp : RwSpec 43 p (within_ p.atom p.text))
  (w : World) (S : Nat -> Prop) (v : Value) (hT : TreeV true w S v (.mk 8 lo hi wt [] [p.tree])) :
  Calls Tryz.prog 22 #[v] w (WrR w (within_ p.atom p.text ++ 32 :: 64 :: 32 :: Lib.decDigits wt)) := by
  obtain ⟨nm, A, n, c, rfl, hnm, hk⟩ := hT.six_
  obtain rfl : n = 1 := by have := hk.1; simpa using this.symm
  obtain ⟨h1, h2, h3, h4, h5⟩ := hk
  obtain ⟨g, o, rfl⟩ := h4.some (by omega)
  have hts := (h5 g o rfl (by omega)).2
  have hta := TreesAt.at_ hts 0 (by simp)
  simp only [List.getElem_cons_zero, Nat.zero_mul, Nat.add_zero] at hta
  obtain ⟨kp, lop, hip, wtp, nmp, Ap, np, cp, hcp, htp⟩ := hta.val6
  have hpw := fun W (hb : Below w.heap.size w W) => hp W S _ (htp.bel (fun _ h => h) hb)
  have hlp := within_len p.atom p.text
  obtain ⟨P, hP⟩ : ∃ P, within_ p.atom p.text = P := ⟨_, rfl⟩
  rw [hP] at hpw hlp ⊢
  have hPl : P.length <= 100002 := by omega
  have hB0 := BoxS.mk' w 46 #[.int .i64 8, .int .i64 lo, .int .i64 hi, .int .i64 wt, .string nm, .slice (some ⟨g, o, none⟩) 1 c]
  have hRf : ∀ W : World, BoxS w 46 #[.int .i64 8, .int .i64 lo, .int .i64 hi, .int .i64 wt, .string nm, .slice (some ⟨g, o, none⟩) 1 c] W -> (fun w' : World => w'.cell? ⟨w.heap.size, 1, none⟩ = some (.int .i64 lo) /\ w'.cell? ⟨w.heap.size, 2, none⟩ = some (.int .i64 hi) /\ w'.cell? ⟨w.heap.size, 3, none⟩ = some (.int .i64 wt) /\ w'.cell? ⟨w.heap.size, 5, none⟩ = some (.slice (some ⟨g, o, none⟩) 1 c) /\ w'.cell? ⟨g, o, none⟩ = some (.int .i64 kp) /\ w'.cell? ⟨g, o + 1, none⟩ = some (.int .i64 lop) /\ w'.cell? ⟨g, o + 2, none⟩ = some (.int .i64 hip) /\ w'.cell? ⟨g, o + 3, none⟩ = some (.int .i64 wtp) /\ w'.cell? ⟨g, o + 4, none⟩ = some (.string nmp) /\ w'.cell? ⟨g, o + 5, none⟩ = some (.slice Ap np cp)) W := fun W hW => by
   have hc6 := (hcp.bel hW.below).at6
   exact ⟨Blk.cell hW.a 1, Blk.cell hW.a 2, Blk.cell hW.a 3, Blk.cell hW.a 5, hc6.1, hc6.2.1, hc6.2.2.1, hc6.2.2.2.1, hc6.2.2.2.2.1, hc6.2.2.2.2.2⟩
  unfold maxLen at h3
  have HPW := Lib.hid hpw; have HB0 := Lib.hid hB0; have HRF := Lib.hid hRf; have HPL := Lib.hid hPl
  clear hpw hB0 hRf hPl hlp hP hp hpl hts hta htp hcp hT h1 h4 h5 hnm
  have d1 := fun W => rdigits_any wt W hwt
  have e1 := dec_len2 wt hwt
  generalize Lib.decDigits wt = L1 at *
  have E1 := Lib.hid e1
  clear e1
  obtain ⟨lv, hlv⟩ : ∃ x : Int, (lo : Int) = x := ⟨_, rfl⟩
  obtain ⟨hv, hhv⟩ : ∃ x : Int, (hi : Int) = x := ⟨_, rfl⟩
  obtain ⟨wv, hwv⟩ : ∃ x : Int, (wt : Int) = x := ⟨_, rfl⟩
  have HRF' := HRF.out; have HB0' := HB0.out
  rw [hlv] at HRF' HB0' ⊢
  rw [hhv] at HRF' HB0' ⊢
  rw [hwv] at d1 HRF' HB0' ⊢
  clear HRF HB0 hlv hhv hwv
  have D1 := Lib.hid d1; have HRF := Lib.hid HRF'; have HB0 := Lib.hid HB0'
  clear d1 HRF' HB0'
  go_enter Tryz.func22, Tryz.ntmps22
  go_wp2_with fail
  have hB0d := HB0.out.drew
  refine region_x 10 (fun w' : World => w'.cell? ⟨w.heap.size, 1, none⟩ = some (.int .i64 lv) /\ w'.cell? ⟨w.heap.size, 2, none⟩ = some (.int .i64 hv) /\ w'.cell? ⟨w.heap.size, 3, none⟩ = some (.int .i64 wv) /\ w'.cell? ⟨w.heap.size, 5, none⟩ = some (.slice (some ⟨g, o, none⟩) 1 c) /\ w'.cell? ⟨g, o, none⟩ = some (.int .i64 kp) /\ w'.cell? ⟨g, o + 1, none⟩ = some (.int .i64 lop) /\ w'.cell? ⟨g, o + 2, none⟩ = some (.int .i64 hip) /\ w'.cell? ⟨g, o + 3, none⟩ = some (.int .i64 wtp) /\ w'.cell? ⟨g, o + 4, none⟩ = some (.string nmp) /\ w'.cell? ⟨g, o + 5, none⟩ = some (.slice Ap np cp)) (by kernel_rfl) ?_
  have hS := HRF.out _ hB0d
  refine tkx (i := 0) (v := ?_) hS ?_ ?_
  rotate_left
  ·rintro w' ⟨b1, b2, b3, b5, x0, x1, x2, x3, x4, x5⟩
   go_simp
   try with_reducible rfl
  try simp only [Act.put, zq1, zq2, zq3, zq4, zq5, zq6]
  refine tkx (i := 1) (v := ?_) hS ?_ ?_
  rotate_left
  ·rintro w' ⟨b1, b2, b3, b5, x0, x1, x2, x3, x4, x5⟩
   go_simp
   try with_reducible rfl
  try simp only [Act.put, zq1, zq2, zq3, zq4, zq5, zq6]
  refine tkx (i := 2) (v := ?_) hS ?_ ?_
  rotate_left
  ·rintro w' ⟨b1, b2, b3, b5, x0, x1, x2, x3, x4, x5⟩
   go_simp
   try with_reducible rfl
  try simp only [Act.put, zq1, zq2, zq3, zq4, zq5, zq6]
  refine tkx (i := 3) (v := ?_) hS ?_ ?_
  rotate_left
  ·rintro w' ⟨b1, b2, b3, b5, x0, x1, x2, x3, x4, x5⟩
   go_simp
   try with_reducible rfl
  try simp only [Act.put, zq1, zq2, zq3, zq4, zq5, zq6]
  refine tkx (i := 6) (v := ?_) hS ?_ ?_
  rotate_left
  ·rintro w' ⟨b1, b2, b3, b5, x0, x1, x2, x3, x4, x5⟩
   go_simp
   try with_reducible rfl
  try simp only [Act.put, zq1, zq2, zq3, zq4, zq5, zq6]
  refine tkx (i := 7) (v := ?_) hS ?_ ?_
  rotate_left
  ·rintro w' ⟨b1, b2, b3, b5, x0, x1, x2, x3, x4, x5⟩
   go_simp
   try with_reducible rfl
  try simp only [Act.put, zq1, zq2, zq3, zq4, zq5, zq6]
  refine anyX_g (i := 4) (by kernel_rfl) (by decide) rfl (by rfl) ?_
  intro K hK
  try simp only [zq1, zq2, zq3]
  refine wp_enterE #[.agg #[.int .i64 kp, .int .i64 lop, .int .i64 hip, .int .i64 wtp, .string nmp, .slice Ap np cp]] Tryz.func43 (by kernel_rfl) (by kernel_rfl) ?_ (HPW.out _ hB0d.below) ?_
  ·go_simp
  rintro e w1 ⟨t1, rfl, ht1, hz1, hb1⟩
  refine ⟨_, rfl, ?_⟩
  have hR1 := hB0d.bel hb1
  have hS1 := HRF.out _ hR1
  have hs1 : t1.size <= 100002 := by rw [hz1]; exact HPL.out
  have HT1 := Lib.hid ht1; clear ht1 hz1 hb1
  refine hK _ _ hS1 ?_
  clear hK
  try simp only [Act.put, zq1, zq2, zq3, zq4, zq5, zq6]
  have g1 : ¬ 9223372036854775807 < t1.size + 3 := by omega
  refine tkx (i := 5) (v := ?_) hS1 ?_ ?_
  rotate_left
  ·rintro w' ⟨b1, b2, b3, b5, x0, x1, x2, x3, x4, x5⟩
   go_simp
   try with_reducible rfl
  try simp only [Act.put, zq1, zq2, zq3, zq4, zq5, zq6]
  refine anyX_g (i := 8) (by kernel_rfl) (by decide) rfl (by rfl) ?_
  intro K hK
  try simp only [zq1, zq2, zq3]
  refine wp_enterE #[.int .i64 wv] Tryz.func36 (by kernel_rfl) (by kernel_rfl) ?_ (D1.out _) ?_
  ·go_simp
  rintro e w2 ⟨t2, rfl, ht2, hz2, hb2⟩
  refine ⟨_, rfl, ?_⟩
  have hR2 := hR1.bel hb2
  have hS2 := HRF.out _ hR2
  have hs2 : t2.size <= 2 := by rw [hz2]; exact E1.out
  have HT2 := Lib.hid ht2; clear ht2 hz2 hb2
  refine hK _ _ hS2 ?_
  clear hK
  try simp only [Act.put, zq1, zq2, zq3, zq4, zq5, zq6]
  have g2 : ¬ 9223372036854775807 < t1.size + 3 + t2.size := by omega
  refine tkx (i := 9) (v := ?_) hS2 ?_ ?_
  rotate_left
  ·rintro w' ⟨b1, b2, b3, b5, x0, x1, x2, x3, x4, x5⟩
   go_simp
   try with_reducible rfl
  try simp only [Act.put, zq1, zq2, zq3, zq4, zq5, zq6]
  have HE := Lib.hid hR2.below
  clear hS hS1 hS2 hR1 hR2 hB0d
  refine anyX_last (by kernel_rfl) (by kernel_rfl) rfl rfl ?_
  try simp only [zq1, zq2, zq3]
  go_simp
  try apply_assumption
  go_wp2_with fail
  go_ret
  exact WrR.mk' _ (by simp [HT1.out, HT2.out]) HE.out
theorem rrex_leaf (p : Pat) (t : ByteArray) (hp : (p = .none_ /\ t = ⟨#[40, 41]⟩) \/ (p = .any_ /\ t = ⟨#[97, 110, 121]⟩) \/ p = .set t.data.toList) : RwSpec 22 p t.data.toList := by
 intro w S v hT
 have go : ∀ (k : Int), (k = 1 /\ p = .none_ /\ t = ⟨#[40, 41]⟩) \/ (k = 3 /\ p = .any_ /\ t = ⟨#[97, 110, 121]⟩) \/ (k = 2 /\ p = .set t.data.toList) -> ∀ (nm : ByteArray) (A : Option Addr) (n c : Nat), (k = 2 -> nm.data.toList = t.data.toList) -> Calls Tryz.prog 22 #[.agg #[.int .i64 k, .int .i64 0, .int .i64 0, .int .i64 0, .string nm, .slice A n c]] w (WrR w t.data.toList) := by
  intro k hk nm A n c hnm
  have HE := Lib.hid (BoxS.mk' w 46 #[.int .i64 k, .int .i64 0, .int .i64 0, .int .i64 0, .string nm, .slice A n c]).below
  have HN := Lib.hid hnm
  clear hT hnm hp
  rcases hk with ⟨rfl, rfl, rfl⟩ | ⟨rfl, rfl, rfl⟩ | ⟨rfl, hp2⟩
  ·go_enter Tryz.func22, Tryz.ntmps22
   go_wp2_with fail
   go_ret
   exact WrR.mk' _ rfl HE.out
  ·go_enter Tryz.func22, Tryz.ntmps22
   go_wp2_with fail
   go_ret
   exact WrR.mk' _ rfl HE.out
  ·clear hp2
   go_enter Tryz.func22, Tryz.ntmps22
   go_wp2_with fail
   go_ret
   exact WrR.mk' _ (HN.out trivial) HE.out
 rcases hp with ⟨rfl, rfl⟩ | ⟨rfl, rfl⟩ | rfl
 ·obtain ⟨nm, A, n, c, rfl, hnm, hk⟩ := hT.six_
  exact go 1 (.inl ⟨rfl, rfl, rfl⟩) nm A n c (fun e => absurd e (by decide))
 ·obtain ⟨nm, A, n, c, rfl, hnm, hk⟩ := hT.six_
  exact go 3 (.inr (.inl ⟨rfl, rfl, rfl⟩)) nm A n c (fun e => absurd e (by decide))
 ·obtain ⟨nm, A, n, c, rfl, hnm, hk⟩ := hT.six_
  exact go 2 (.inr (.inr ⟨rfl, rfl⟩)) nm A n c (fun _ => hnm)
theorem Pat.text_le : ∀ {p : Pat} {m : Nat}, p.text.length <= m -> ∀ q ∈ p.kids, q.text.length <= m := by
 have wl : ∀ (b : Bool) (l : Bs), l.length <= (within_ b l).length := fun b l => by cases b <;> simp [within_] <;> omega
 intro p m h q hq
 cases p with
 | none_ => simp [Pat.kids] at hq
 | set s => simp [Pat.kids] at hq
 | any_ => simp [Pat.kids] at hq
 | cat a b =>
   simp only [Pat.text, List.length_append, List.length_cons] at h
   have h1 := wl a.atom a.text; have h2 := wl b.atom b.text
   simp only [Pat.kids, List.mem_cons, List.not_mem_nil, or_false] at hq
   rcases hq with rfl | rfl <;> omega
 | alt a b =>
   simp only [Pat.text, List.length_append, List.length_cons] at h
   have h1 := wl a.atom a.text; have h2 := wl b.atom b.text
   simp only [Pat.kids, List.mem_cons, List.not_mem_nil, or_false] at hq
   rcases hq with rfl | rfl <;> omega
 | star a =>
   simp only [Pat.text, List.length_append, List.length_cons] at h
   have h1 := wl a.atom a.text
   obtain rfl := List.mem_singleton.1 hq
   omega
 | times a lo hi =>
   simp only [Pat.text, List.length_append, List.length_cons] at h
   have h1 := wl a.atom a.text
   obtain rfl := List.mem_singleton.1 hq
   omega
 | weight a x =>
   simp only [Pat.text, List.length_append, List.length_cons] at h
   have h1 := wl a.atom a.text
   obtain rfl := List.mem_singleton.1 hq
   omega
theorem rrex_ok (p : Pat) (hs : p.Small) (hl : p.text.length <= 100000) : RwSpec 22 p p.text := by
 induction p with
 | none_ => exact rrex_leaf .none_ ⟨#[40, 41]⟩ (.inl ⟨rfl, rfl⟩)
 | set s =>
   have := rrex_leaf (.set s) ⟨s.toArray⟩ (.inr (.inr (by simp)))
   simpa [Pat.text] using this
 | any_ => exact rrex_leaf .any_ ⟨#[97, 110, 121]⟩ (.inr (.inl ⟨rfl, rfl⟩))
 | cat a b iha ihb =>
   intro w S v hT
   have la := Pat.text_le hl a (by simp [Pat.kids]); have lb := Pat.text_le hl b (by simp [Pat.kids])
   exact rrex_cat a b 0 0 0 la lb (inside_ok a (by omega) (iha hs.1 la)) (inside_ok b (by omega) (ihb hs.2 lb)) w S v hT
 | alt a b iha ihb =>
   intro w S v hT
   have la := Pat.text_le hl a (by simp [Pat.kids]); have lb := Pat.text_le hl b (by simp [Pat.kids])
   exact rrex_alt a b 0 0 0 la lb (inside_ok a (by omega) (iha hs.1 la)) (inside_ok b (by omega) (ihb hs.2 lb)) w S v hT
 | star a ih =>
   intro w S v hT
   have la := Pat.text_le hl a (by simp [Pat.kids])
   exact rrex_star a 0 0 0 la (inside_ok a (by omega) (ih hs la)) w S v hT
 | times a lo hi ih =>
   intro w S v hT
   have la := Pat.text_le hl a (by simp [Pat.kids])
   exact rrex_times a lo hi 0 hs.2.1 hs.2.2 la (inside_ok a (by omega) (ih hs.1 la)) w S v hT
 | weight a x ih =>
   intro w S v hT
   have la := Pat.text_le hl a (by simp [Pat.kids])
   exact rrex_weight a 0 0 x hs.2 la (inside_ok a (by omega) (ih hs.1 la)) w S v hT
end Go.Proofs.YtalgnnidhnhciaaGreatDoor

set_option linter.unusedVariables false
set_option linter.unusedSimpArgs false
set_option maxRecDepth 100000
set_option maxHeartbeats 16000000
namespace Go.Proofs.YtalgnnidhnhciaaGreatDoor
open Go Go.RowKit Go.Proofs
def Cd (n m gk : Nat) (t : ByteArray) : Prop := (t = ⟨#[]⟩ /\ m = n /\ gk = 7 /\ m < 16777216) \/ (t.data.toList ≠ [] /\ 1 <= gk /\ gk <= 6 /\ m < 16 ^ (gk - 1) /\ t.size + gk = 7 /\ ((m = 0 /\ t.data.toList = hexDigits n) \/ (0 < m /\ hexDigits n = hexDigits m ++ t.data.toList)))
theorem Cd.next {n m gk : Nat} {t : ByteArray} (h : Cd n m gk t) (hm : 0 < m \/ t = ⟨#[]⟩) (x : ByteArray) (hx : x.data.toList = [hexC (m % 16)]) : Cd n (m / 16) (gk - 1) (x ++ t) /\ gk - 1 < gk := by
 have hs : (x ++ t).data.toList = hexC (m % 16) :: t.data.toList := by simp [hx]
 have hz : (x ++ t).size = 1 + t.size := by rw [size_list, hs, size_list, List.length_cons]; omega
 rcases h with ⟨rfl, rfl, rfl, h16⟩ | ⟨h1, h2, h3, h4, h5, h6⟩
 ·refine ⟨.inr ⟨by rw [hs]; simp, by omega, by omega, by show m / 16 < 16 ^ 5; omega, by rw [hz]; rfl, ?_⟩, by omega⟩
  by_cases hb : m < 16
  ·exact .inl ⟨by omega, by rw [hs, hex_small hb, Nat.mod_eq_of_lt hb]⟩
  ·exact .inr ⟨by omega, by rw [hs, hex_big hb]⟩
 ·have hm0 : 0 < m := by
   rcases hm with hm | rfl
   ·exact hm
   ·exact absurd rfl h1
  have hg : 2 <= gk := by
   rcases Nat.lt_or_ge gk 2 with q | q
   ·have : gk = 1 := by omega
    subst this
    simp at h4
    omega
   ·exact q
  have h6' : hexDigits n = hexDigits m ++ t.data.toList := by
   rcases h6 with ⟨q, _⟩ | ⟨_, q⟩
   ·omega
   ·exact q
  have h4' : m / 16 < 16 ^ (gk - 1 - 1) := by
   obtain ⟨j, rfl⟩ : ∃ j, gk = j + 2 := ⟨gk - 2, by omega⟩
   have e : 16 ^ (j + 2 - 1) = 16 * 16 ^ j := by rw [show j + 2 - 1 = j + 1 by omega, Nat.pow_succ]; omega
   rw [e] at h4
   show m / 16 < 16 ^ j
   omega
  refine ⟨.inr ⟨by rw [hs]; simp, by omega, by omega, h4', by rw [hz]; omega, ?_⟩, by omega⟩
  by_cases hb : m < 16
  ·exact .inl ⟨by omega, by rw [hs, h6', hex_small hb, Nat.mod_eq_of_lt hb]; rfl⟩
  ·exact .inr ⟨by omega, by rw [hs, h6', hex_big hb]; simp⟩
theorem Cd.size10 {n m gk : Nat} {t : ByteArray} (h : Cd n m gk t) : t.size <= 10 := by
 rcases h with ⟨rfl, _⟩ | ⟨_, _, _, _, q, _⟩
 ·exact Nat.zero_le _
 ·omega
theorem rcode_any (n : Nat) (hn : n <= 1114111) (w : World) : Calls Tryz.prog 66 #[.int .i64 n] w (WrR w (85 :: 43 :: hexDigits n)) := by
 have hc0 : Cd n n 7 ⟨#[]⟩ := .inl ⟨rfl, rfl, rfl, by omega⟩
 have HC0 := Lib.hid hc0; clear hc0
 obtain ⟨M, hM⟩ : ∃ M : Nat, n = M := ⟨_, rfl⟩
 have hM' : M <= 1114111 := by omega
 have HC1 := HC0.out
 rw [hM] at HC1 ⊢
 have HC0 := Lib.hid HC1; clear HC1 hM hn
 go_enter Tryz.func66, Tryz.ntmps66
 go_wp2_with fail
 go_loopg [0, 3] 7 (fun gk vn vs wr => ∃ (m : Nat) (t : ByteArray), vn = .int .i64 m /\ vs = .string t /\ m <= 1114111 /\ t.size <= 10 /\ wr = w /\ Hid (Cd M m gk t))
 case atStart => exact ⟨M, ⟨#[]⟩, rfl, rfl, hM', by decide, rfl, HC0⟩
 case round =>
  clear HC0 hM'
  obtain ⟨m, t, rfl, rfl, hm, ht, rfl, HC⟩ := hrel
  have m0 : (0 : Int) <= (m : Int) := Int.natCast_nonneg _
  by_cases hgo : 0 < m \/ t = ⟨#[]⟩
  ·have hnx := HC.out.next hgo
   have HNX := Lib.hid hnx; clear hnx HC
   have hts : ¬ 9223372036854775807 < 1 + t.size := by omega
   have hd : (m : Int) % 16 = ((m % 16 : Nat) : Int) := by omega
   have hd16 : m % 16 < 16 := by omega
   have hq : ((m / 16 : Nat) : Int) = (m : Int) / 16 := by omega
   have HQ := Lib.hid hq; clear hq
   obtain ⟨d, hdd⟩ : ∃ d, m % 16 = d := ⟨_, rfl⟩
   rw [hdd] at hd hd16
   have hnx := HNX.out
   rw [hdd] at hnx
   have HNX := Lib.hid hnx; clear hnx hdd
   have hdc : d = 0 \/ d = 1 \/ d = 2 \/ d = 3 \/ d = 4 \/ d = 5 \/ d = 6 \/ d = 7 \/ d = 8 \/ d = 9 \/ d = 10 \/ d = 11 \/ d = 12 \/ d = 13 \/ d = 14 \/ d = 15 := by omega
   clear hd16
   rcases hgo with hp | rfl
   ·have hp' : (0 : Int) < (m : Int) := by omega
    clear hp
    rcases hdc with rfl | rfl | rfl | rfl | rfl | rfl | rfl | rfl | rfl | rfl | rfl | rfl | rfl | rfl | rfl | rfl
    all_goals (
     push_cast at hd
     go_wp2_with fail
     clear hd
     have hnn := HNX.out ⟨#[_]⟩ (by rfl)
     have HN := Lib.hid hnn.1; have HG := Lib.hid hnn.2; clear hnn HNX
     go_roundg (gk - 1)
     case measure => have := HG.out; omega
     case rel => exact ⟨m / 16, _, by rw [HQ.out], rfl, by omega, HN.out.size10, rfl, HN⟩)
   ·rcases Nat.eq_zero_or_pos m with hz | hp
    ·obtain rfl : d = 0 := by omega
     push_cast at hd
     have hp' : ¬ (0 : Int) < (m : Int) := by omega
     have hnn := HNX.out ⟨#[_]⟩ (by rfl)
     rw [show m / 16 = 0 by omega] at hnn
     have HN := Lib.hid hnn.1; have HG := Lib.hid hnn.2; clear hnn HNX
     go_wp2_with fail
     clear hd
     go_roundg (gk - 1)
     case measure => have := HG.out; omega
     case rel => exact ⟨0, _, rfl, rfl, by omega, HN.out.size10, rfl, HN⟩
    ·have hp' : (0 : Int) < (m : Int) := by omega
     clear hp
     rcases hdc with rfl | rfl | rfl | rfl | rfl | rfl | rfl | rfl | rfl | rfl | rfl | rfl | rfl | rfl | rfl | rfl
     all_goals (
      push_cast at hd
      go_wp2_with fail
      clear hd
      have hnn := HNX.out ⟨#[_]⟩ (by rfl)
      have HN := Lib.hid hnn.1; have HG := Lib.hid hnn.2; clear hnn HNX
      go_roundg (gk - 1)
      case measure => have := HG.out; omega
      case rel => exact ⟨m / 16, _, by rw [HQ.out], rfl, by omega, HN.out.size10, rfl, HN⟩)
  ·have hm0 : m = 0 := by omega
   have htn : t.data.toList ≠ [] := by
    rcases HC.out with ⟨q, _⟩ | ⟨q, _⟩
    ·exact absurd (.inr q) hgo
    ·exact q
   have hfin : t.data.toList = hexDigits M := by
    rcases HC.out with ⟨q, _⟩ | ⟨_, _, _, _, _, q⟩
    ·exact absurd (.inr q) hgo
    ·rcases q with ⟨_, q⟩ | ⟨q, _⟩
     ·exact q
     ·omega
   subst hm0
   have t1 : t.toList = t.data.toList := ByteArray.toList_eq t
   have t2 : (t.toList == []) = false := by rw [t1]; simpa using htn
   have t3 : t.toList ≠ [] := by rw [t1]; exact htn
   have t4 : (!t.toList.isEmpty) = true := by rw [t1]; simpa using htn
   have t5 : t.toList.isEmpty = false := by rw [t1]; simpa using htn
   have HF := Lib.hid hfin
   have hts : ¬ 9223372036854775807 < 2 + t.size := by omega
   clear hgo htn hfin HC t1 m0 hm
   go_wp2_with fail
   go_ret
   exact WrR.mk' _ (by simp [HF.out]) (Below.refl _ _)
def RcSpec (f : Nat) (p : Cls) (l : Bs) : Prop := ∀ (w : World) (S : Nat -> Prop) (v : Value), TreeV false w S v p.tree -> Calls Tryz.prog f #[v] w (WrR w l)
theorem Cls.kindA (p : Cls) : ∃ k lo hi wt nm, p.tree = .mk k lo hi wt nm (p.kids.map Cls.tree) /\ (p.atom = true -> k = 1 \/ k = 2 \/ k = 3) /\ (p.atom = false -> 4 <= k) := by
 cases p <;> exact ⟨_, _, _, _, _, rfl, by simp [Cls.atom], by simp [Cls.atom]⟩
theorem rwithin_ok (p : Cls) (hl : p.text.length <= 1000000) (h : RcSpec 35 p p.text) : RcSpec 67 p (within_ p.atom p.text) := by
 intro w S v hT
 obtain ⟨k, lo, hi, wt, nm0, hpt, hk1, hk2⟩ := p.kindA
 obtain ⟨P, hP⟩ : ∃ P, p.text = P := ⟨_, rfl⟩
 rw [hP] at h hl ⊢
 have hcon := fun W (hb : Below w.heap.size w W) => h W S v (hT.bel (fun _ h => h) hb)
 rw [hpt] at hT
 obtain ⟨nm, A, n, c, rfl, hk⟩ := hT.five_
 have hB0 := BoxS.mk' w 35 #[.int .i64 k, .int .i64 lo, .int .i64 hi, .string nm, .slice A n c]
 have HC := Lib.hid hcon; have HB := Lib.hid hB0.below; have HL := Lib.hid hl
 clear hcon hB0 hk hT h hpt hP hl
 by_cases ha : p.atom = true
 ·have hk := hk1 ha
  rw [ha]
  clear hk1 hk2 ha
  rcases hk with rfl | rfl | rfl
  all_goals (
   go_enter Tryz.func67, Tryz.ntmps67
   go_wp2_with fail
   refine (HC.out _ HB.out).mono ?_
   rintro e w1 ⟨t1, rfl, ht1, hz1, hb1⟩
   have HT1 := Lib.hid ht1; have HB1 := Lib.hid (HB.out.trans (hb1.mono HB.out.size)); clear ht1 hz1 hb1
   go_wp2_with fail
   go_ret
   exact WrR.mk' _ HT1.out HB1.out)
 ·have ha' : p.atom = false := by simpa using ha
  have hk := hk2 ha'
  rw [ha']
  have q1 : (k == 1) = false := by simp; omega
  have q2 : (k == 2) = false := by simp; omega
  have q3 : (k == 3) = false := by simp; omega
  clear hk1 hk2 ha ha'
  go_enter Tryz.func67, Tryz.ntmps67
  go_wp2_with fail
  refine (HC.out _ HB.out).mono ?_
  rintro e w1 ⟨t1, rfl, ht1, hz1, hb1⟩
  have hs1 : t1.size <= 1000000 := by rw [hz1]; exact HL.out
  have HT1 := Lib.hid ht1; have HB1 := Lib.hid (HB.out.trans (hb1.mono HB.out.size)); clear ht1 hz1 hb1
  have g1 : ¬ 9223372036854775807 < 1 + t1.size := by omega
  have g2 : ¬ 9223372036854775807 < 1 + t1.size + 1 := by omega
  go_wp2_with fail
  go_ret
  exact WrR.mk' _ (by simp [HT1.out, within_]) HB1.out
theorem hexD_len (n : Nat) (h : n <= 1114111) : (85 :: 43 :: hexDigits n).length <= 8 := by have := hex_len n h; simp; omega
theorem rclass_range (x y : Nat) (hxy : x <= y) (hy : y <= 1114111) : RcSpec 35 (.range x y) (Cls.range x y).text := by
 intro w S v hT
 obtain ⟨nm, A, n, c, rfl, hnm, hk⟩ := hT.five_
 have hB0 := BoxS.mk' w 35 #[.int .i64 1, .int .i64 x, .int .i64 y, .string nm, .slice A n c]
 have cx := fun W => rcode_any x (by omega) W
 have cy := fun W => rcode_any y hy W
 have lx := hexD_len x (by omega)
 have ly := hexD_len y hy
 by_cases h : x = y
 ·subst h
  have e : (Cls.range x x).text = 85 :: 43 :: hexDigits x := by simp [Cls.text]
  rw [e]
  have HC := Lib.hid cx; have HB := Lib.hid hB0.below
  clear cx cy hB0 hT hk hnm e hxy hy lx ly
  generalize 85 :: 43 :: hexDigits x = L at *
  obtain ⟨xv, hxv⟩ : ∃ i : Int, (x : Int) = i := ⟨_, rfl⟩
  have HC' := HC.out; have HB' := HB.out
  rw [hxv] at HC' HB' ⊢
  have HC := Lib.hid HC'; have HB := Lib.hid HB'; clear HC' HB' hxv
  go_enter Tryz.func35, Tryz.ntmps35
  go_wp2_with fail
  refine (HC.out _).mono ?_
  rintro e w1 ⟨t1, rfl, ht1, hz1, hb1⟩
  have HT1 := Lib.hid ht1; have HB1 := Lib.hid (HB.out.trans (hb1.mono HB.out.size)); clear ht1 hz1 hb1
  go_wp2_with fail
  go_ret
  exact WrR.mk' _ HT1.out HB1.out
 ·have e : (Cls.range x y).text = (85 :: 43 :: hexDigits x) ++ (46 :: 46 :: (85 :: 43 :: hexDigits y)) := by simp [Cls.text, h]
  rw [e]
  generalize 85 :: 43 :: hexDigits x = L1 at *
  generalize 85 :: 43 :: hexDigits y = L2 at *
  have hne : ((x : Int) == (y : Int)) = false := by simp; omega
  obtain ⟨xv, hxv⟩ : ∃ i : Int, (x : Int) = i := ⟨_, rfl⟩
  obtain ⟨yv, hyv⟩ : ∃ i : Int, (y : Int) = i := ⟨_, rfl⟩
  rw [hxv] at cx hne hB0 ⊢
  rw [hyv] at cy hne hB0 ⊢
  have hRf : ∀ W : World, BoxS w 35 #[.int .i64 1, .int .i64 xv, .int .i64 yv, .string nm, .slice A n c] W -> (fun w' : World => w'.cell? ⟨w.heap.size, 1, none⟩ = some (.int .i64 xv) /\ w'.cell? ⟨w.heap.size, 2, none⟩ = some (.int .i64 yv)) W := fun W hW => ⟨Blk.cell hW.a 1, Blk.cell hW.a 2⟩
  have HCX := Lib.hid cx; have HCY := Lib.hid cy; have HB0 := Lib.hid hB0; have HRF := Lib.hid hRf; have LX := Lib.hid lx; have LY := Lib.hid ly
  clear cx cy hB0 hRf lx ly hT hk hnm e hxy hy h hxv hyv
  go_enter Tryz.func35, Tryz.ntmps35
  go_wp2_with fail
  have hB0d := HB0.out.drew
  refine region_x 8 (fun w' : World => w'.cell? ⟨w.heap.size, 1, none⟩ = some (.int .i64 xv) /\ w'.cell? ⟨w.heap.size, 2, none⟩ = some (.int .i64 yv)) (by kernel_rfl) ?_
  have hS := HRF.out _ hB0d
  refine tkx (i := 0) (v := ?_) hS ?_ ?_
  rotate_left
  ·rintro w' ⟨b1, b2⟩
   go_simp
   try with_reducible rfl
  try simp only [Act.put, zq1, zq2, zq3, zq4, zq5, zq6]
  refine tkx (i := 1) (v := ?_) hS ?_ ?_
  rotate_left
  ·rintro w' ⟨b1, b2⟩
   go_simp
   try with_reducible rfl
  try simp only [Act.put, zq1, zq2, zq3, zq4, zq5, zq6]
  refine tkx (i := 4) (v := ?_) hS ?_ ?_
  rotate_left
  ·rintro w' ⟨b1, b2⟩
   go_simp
   try with_reducible rfl
  try simp only [Act.put, zq1, zq2, zq3, zq4, zq5, zq6]
  refine tkx (i := 5) (v := ?_) hS ?_ ?_
  rotate_left
  ·rintro w' ⟨b1, b2⟩
   go_simp
   try with_reducible rfl
  try simp only [Act.put, zq1, zq2, zq3, zq4, zq5, zq6]
  refine anyX_g (i := 2) (by kernel_rfl) (by decide) rfl (by rfl) ?_
  intro K hK
  try simp only [zq1, zq2, zq3]
  refine wp_enterE #[.int .i64 xv] Tryz.func66 (by kernel_rfl) (by kernel_rfl) ?_ (HCX.out _) ?_
  ·go_simp
  rintro e w1 ⟨t1, rfl, ht1, hz1, hb1⟩
  refine ⟨_, rfl, ?_⟩
  have hR1 := hB0d.bel hb1
  have hS1 := HRF.out _ hR1
  have hs1 : t1.size <= 8 := by rw [hz1]; exact LX.out
  have HT1 := Lib.hid ht1; clear ht1 hz1 hb1
  refine hK _ _ hS1 ?_
  clear hK
  try simp only [Act.put, zq1, zq2, zq3, zq4, zq5, zq6]
  have g1 : ¬ 9223372036854775807 < t1.size + 2 := by omega
  refine tkx (i := 3) (v := ?_) hS1 ?_ ?_
  rotate_left
  ·rintro w' ⟨b1, b2⟩
   go_simp
   try with_reducible rfl
  try simp only [Act.put, zq1, zq2, zq3, zq4, zq5, zq6]
  refine anyX_g (i := 6) (by kernel_rfl) (by decide) rfl (by rfl) ?_
  intro K hK
  try simp only [zq1, zq2, zq3]
  refine wp_enterE #[.int .i64 yv] Tryz.func66 (by kernel_rfl) (by kernel_rfl) ?_ (HCY.out _) ?_
  ·go_simp
  rintro e w2 ⟨t2, rfl, ht2, hz2, hb2⟩
  refine ⟨_, rfl, ?_⟩
  have hR2 := hR1.bel hb2
  have hS2 := HRF.out _ hR2
  have hs2 : t2.size <= 8 := by rw [hz2]; exact LY.out
  have HT2 := Lib.hid ht2; clear ht2 hz2 hb2
  refine hK _ _ hS2 ?_
  clear hK
  try simp only [Act.put, zq1, zq2, zq3, zq4, zq5, zq6]
  have g2 : ¬ 9223372036854775807 < t1.size + 2 + t2.size := by omega
  refine tkx (i := 7) (v := ?_) hS2 ?_ ?_
  rotate_left
  ·rintro w' ⟨b1, b2⟩
   go_simp
   try with_reducible rfl
  try simp only [Act.put, zq1, zq2, zq3, zq4, zq5, zq6]
  have HE := Lib.hid hR2.below
  clear hS hS1 hS2 hR1 hR2 hB0d
  refine anyX_last (by kernel_rfl) (by kernel_rfl) rfl rfl ?_
  try simp only [zq1, zq2, zq3]
  go_simp
  try apply_assumption
  go_wp2_with fail
  go_ret
  exact WrR.mk' _ (by simp [HT1.out, HT2.out]) HE.out
theorem rclass_leaf (p : Cls) (t : ByteArray) (hp : (p = .any_ /\ t = ⟨#[97, 110, 121]⟩) \/ p = .name t.data.toList) : RcSpec 35 p t.data.toList := by
 intro w S v hT
 have go : ∀ (k : Int), (k = 3 /\ p = .any_ /\ t = ⟨#[97, 110, 121]⟩) \/ (k = 2 /\ p = .name t.data.toList) -> ∀ (nm : ByteArray) (A : Option Addr) (n c : Nat), (k = 2 -> nm.data.toList = t.data.toList) -> Calls Tryz.prog 35 #[.agg #[.int .i64 k, .int .i64 0, .int .i64 0, .string nm, .slice A n c]] w (WrR w t.data.toList) := by
  intro k hk nm A n c hnm
  have HE := Lib.hid (BoxS.mk' w 35 #[.int .i64 k, .int .i64 0, .int .i64 0, .string nm, .slice A n c]).below
  have HN := Lib.hid hnm
  clear hT hnm hp
  rcases hk with ⟨rfl, rfl, rfl⟩ | ⟨rfl, hp2⟩
  ·go_enter Tryz.func35, Tryz.ntmps35
   go_wp2_with fail
   go_ret
   exact WrR.mk' _ rfl HE.out
  ·clear hp2
   go_enter Tryz.func35, Tryz.ntmps35
   go_wp2_with fail
   go_ret
   exact WrR.mk' _ (HN.out trivial) HE.out
 rcases hp with ⟨rfl, rfl⟩ | rfl
 ·obtain ⟨nm, A, n, c, rfl, hnm, hk⟩ := hT.five_
  exact go 3 (.inl ⟨rfl, rfl, rfl⟩) nm A n c (fun e => absurd e (by decide))
 ·obtain ⟨nm, A, n, c, rfl, hnm, hk⟩ := hT.five_
  exact go 2 (.inr ⟨rfl, rfl⟩) nm A n c (fun _ => hnm)
theorem rclass_not (p : Cls) (hpl : p.text.length <= 100000) (hp : RcSpec 67 p (within_ p.atom p.text)) : RcSpec 35 (.not_ p) (Cls.not_ p).text := by
 intro w S v hT
 show Calls _ _ _ _ (WrR w (33 :: within_ p.atom p.text))
 obtain ⟨nm, A, n, c, rfl, hnm, hk⟩ := hT.five_
 obtain rfl : n = 1 := by have := hk.1; simpa using this.symm
 obtain ⟨h1, h2, h3, h4, h5⟩ := hk
 obtain ⟨g, o, rfl⟩ := h4.some (by omega)
 have hts := (h5 g o rfl (by omega)).2
 have htp := TreesAt.at_ hts 0 (by simp)
 simp only [List.getElem_cons_succ, List.getElem_cons_zero, Nat.zero_mul, Nat.add_zero, Nat.one_mul, sz] at htp
 obtain ⟨kp, lop, hip, nmp, Ap, np, cp, hcp, http⟩ := htp.val5
 have hpw := fun W (hb : Below w.heap.size w W) => hp W S _ (http.bel (fun _ h => h) hb)
 have hlp := within_len p.atom p.text
 obtain ⟨P, hP⟩ : ∃ x, within_ p.atom p.text = x := ⟨_, rfl⟩
 rw [hP] at hpw hlp ⊢
 have hPl : P.length <= 100002 := by omega
 have hB0 := BoxS.mk' w 35 #[.int .i64 4, .int .i64 0, .int .i64 0, .string nm, .slice (some ⟨g, o, none⟩) 1 c]
 obtain ⟨x0, x1, x2, x3, x4⟩ := (hcp.bel hB0.below).at5
 have HPW := Lib.hid hpw; have HB0 := Lib.hid hB0; have HPL := Lib.hid hPl
 unfold maxLen at h3
 clear hpw hB0 hPl hlp hP hp hpl hts htp http hcp hT h1 h4 h5 hnm
 go_enter Tryz.func35, Tryz.ntmps35
 go_wp2_with fail
 refine (HPW.out _ HB0.out.below).mono ?_
 rintro e w1 ⟨t1, rfl, ht1, hz1, hb1⟩
 have hs1 : t1.size <= 100002 := by rw [hz1]; exact HPL.out
 have HT1 := Lib.hid ht1; have HE := Lib.hid (HB0.out.bel hb1).below
 have g1 : ¬ 9223372036854775807 < 1 + t1.size := by omega
 clear ht1 hz1 hb1 x0 x1 x2 x3 x4
 go_wp2_with fail
 go_ret
 exact WrR.mk' _ (by simp [HT1.out]) HE.out
theorem sep_cell {W : World} {H j : Nat} (h : Blk W H 9 #[.string ⟨#[32, 124, 32]⟩, .string ⟨#[32, 38, 32]⟩, .string ⟨#[32, 45, 32]⟩]) (hj : j <= 2) (x : UInt8) (hx : x = if j = 0 then 124 else if j = 1 then 38 else 45) : ∃ t : ByteArray, t.data.toList = [32, x, 32] /\ t.size = 3 /\ W.cell? ⟨H, j, none⟩ = some (.string t) := by
 have : j = 0 \/ j = 1 \/ j = 2 := by omega
 rcases this with rfl | rfl | rfl <;> subst hx
 ·exact ⟨_, by rfl, by decide, Blk.cell h 0⟩
 ·exact ⟨_, by rfl, by decide, Blk.cell h 1⟩
 ·exact ⟨_, by rfl, by decide, Blk.cell h 2⟩
theorem rclass_two (p q : Cls) (K : Int) (j : Nat) (x : UInt8) (hK : K = (j : Int) + 5) (hj : j <= 2) (hx : x = if j = 0 then 124 else if j = 1 then 38 else 45) (hpl : p.text.length <= 100000) (hql : q.text.length <= 100000) (hp : RcSpec 67 p (within_ p.atom p.text)) (hq : RcSpec 67 q (within_ q.atom q.text))
  (w : World) (S : Nat -> Prop) (v : Value) (hT : TreeV false w S v (.mk K 0 0 0 [] [p.tree, q.tree])) : Calls Tryz.prog 35 #[v] w (WrR w (within_ p.atom p.text ++ 32 :: x :: 32 :: within_ q.atom q.text)) := by
  obtain ⟨nm, A, n, c, rfl, hnm, hk⟩ := hT.five_
  obtain rfl : n = 2 := by have := hk.1; simpa using this.symm
  obtain ⟨h1, h2, h3, h4, h5⟩ := hk
  obtain ⟨g, o, rfl⟩ := h4.some (by omega)
  have hts := (h5 g o rfl (by omega)).2
  have htp := TreesAt.at_ hts 0 (by simp)
  simp only [List.getElem_cons_succ, List.getElem_cons_zero, Nat.zero_mul, Nat.add_zero, Nat.one_mul, sz] at htp
  obtain ⟨kp, lop, hip, nmp, Ap, np, cp, hcp, http⟩ := htp.val5
  have hpw := fun W (hb : Below w.heap.size w W) => hp W S _ (http.bel (fun _ h => h) hb)
  have hlp := within_len p.atom p.text
  obtain ⟨P, hP⟩ : ∃ x, within_ p.atom p.text = x := ⟨_, rfl⟩
  rw [hP] at hpw hlp ⊢
  have hPl : P.length <= 100002 := by omega
  have htq := TreesAt.at_ hts 1 (by simp)
  simp only [List.getElem_cons_succ, List.getElem_cons_zero, Nat.zero_mul, Nat.add_zero, Nat.one_mul, sz] at htq
  obtain ⟨kq, loq, hiq, nmq, Aq, nq, cq, hcq, httq⟩ := htq.val5
  have hqw := fun W (hb : Below w.heap.size w W) => hq W S _ (httq.bel (fun _ h => h) hb)
  have hlq := within_len q.atom q.text
  obtain ⟨Q, hQ⟩ : ∃ x, within_ q.atom q.text = x := ⟨_, rfl⟩
  rw [hQ] at hqw hlq ⊢
  have hQl : Q.length <= 100002 := by omega
  have hB0 := BoxS.mk' w 35 #[.int .i64 K, .int .i64 0, .int .i64 0, .string nm, .slice (some ⟨g, o, none⟩) 2 c]
  have hRf : ∀ W : World, BoxS w 35 #[.int .i64 K, .int .i64 0, .int .i64 0, .string nm, .slice (some ⟨g, o, none⟩) 2 c] W -> (fun w' : World => w'.cell? ⟨w.heap.size, 0, none⟩ = some (.int .i64 K) /\ w'.cell? ⟨w.heap.size, 4, none⟩ = some (.slice (some ⟨g, o, none⟩) 2 c) /\ w'.cell? ⟨g, o, none⟩ = some (.int .i64 kp) /\ w'.cell? ⟨g, o + 1, none⟩ = some (.int .i64 lop) /\ w'.cell? ⟨g, o + 2, none⟩ = some (.int .i64 hip) /\ w'.cell? ⟨g, o + 3, none⟩ = some (.string nmp) /\ w'.cell? ⟨g, o + 4, none⟩ = some (.slice Ap np cp) /\ w'.cell? ⟨g, o + 5, none⟩ = some (.int .i64 kq) /\ w'.cell? ⟨g, o + 5 + 1, none⟩ = some (.int .i64 loq) /\ w'.cell? ⟨g, o + 5 + 2, none⟩ = some (.int .i64 hiq) /\ w'.cell? ⟨g, o + 5 + 3, none⟩ = some (.string nmq) /\ w'.cell? ⟨g, o + 5 + 4, none⟩ = some (.slice Aq nq cq)) W := fun W hW => by
   have hc5 := (hcp.bel hW.below).at5
   have hd5 := (hcq.bel hW.below).at5
   exact ⟨Blk.cell hW.a 0, Blk.cell hW.a 4, hc5.1, hc5.2.1, hc5.2.2.1, hc5.2.2.2.1, hc5.2.2.2.2, hd5.1, hd5.2.1, hd5.2.2.1, hd5.2.2.2.1, hd5.2.2.2.2⟩
  have hK1 : (K == 1) = false := by simp; omega
  have hK2 : (K == 2) = false := by simp; omega
  have hK3 : (K == 3) = false := by simp; omega
  have hK4 : (K == 4) = false := by simp; omega
  have hK5 : IntKind.i64.wrap (K - 5) = (j : Int) := by rw [show K - 5 = (j : Int) by omega]; exact IntWalk.i64_in _ (by omega)
  have J0 : (0 : Int) <= (j : Int) := Int.natCast_nonneg _
  have J1 : (j : Int) < 3 := by omega
  have J2 : j < 3 := by omega
  unfold maxLen at h3
  have HPW := Lib.hid hpw; have HQW := Lib.hid hqw; have HB0 := Lib.hid hB0; have HRF := Lib.hid hRf; have HPL := Lib.hid hPl; have HQL := Lib.hid hQl; have HK5 := Lib.hid hK5; have HX := Lib.hid hx
  clear hpw hqw hB0 hRf hPl hQl hlp hlq hP hQ hp hq hpl hql hts htp htq http httq hcp hcq hT h1 h4 h5 hnm hK hK5 hx
  go_enter Tryz.func35, Tryz.ntmps35
  go_wp2_with fail
  have hB0d := HB0.out.drew
  obtain ⟨V0, hV0⟩ : ∃ V, (w.alloc (.cells #[.int .i64 K, .int .i64 0, .int .i64 0, .string nm, .slice (some ⟨g, o, none⟩) 2 c] 35)).drew = V := ⟨_, rfl⟩
  rw [hV0] at hB0d
  refine region_x 18 (fun w' : World => w'.cell? ⟨w.heap.size, 0, none⟩ = some (.int .i64 K) /\ w'.cell? ⟨w.heap.size, 4, none⟩ = some (.slice (some ⟨g, o, none⟩) 2 c) /\ w'.cell? ⟨g, o, none⟩ = some (.int .i64 kp) /\ w'.cell? ⟨g, o + 1, none⟩ = some (.int .i64 lop) /\ w'.cell? ⟨g, o + 2, none⟩ = some (.int .i64 hip) /\ w'.cell? ⟨g, o + 3, none⟩ = some (.string nmp) /\ w'.cell? ⟨g, o + 4, none⟩ = some (.slice Ap np cp) /\ w'.cell? ⟨g, o + 5, none⟩ = some (.int .i64 kq) /\ w'.cell? ⟨g, o + 5 + 1, none⟩ = some (.int .i64 loq) /\ w'.cell? ⟨g, o + 5 + 2, none⟩ = some (.int .i64 hiq) /\ w'.cell? ⟨g, o + 5 + 3, none⟩ = some (.string nmq) /\ w'.cell? ⟨g, o + 5 + 4, none⟩ = some (.slice Aq nq cq)) (by kernel_rfl) ?_
  rw [hV0]
  have hS := HRF.out _ hB0d
  clear hV0 HB0
  refine tkx (i := 0) (v := ?_) hS ?_ ?_
  rotate_left
  ·rintro w' ⟨b0, b4, x0, x1, x2, x3, x4, y0, y1, y2, y3, y4⟩
   go_simp
   try with_reducible rfl
  try simp only [Act.put, zq1, zq2, zq3, zq4, zq5, zq6]
  refine tkx (i := 1) (v := ?_) hS ?_ ?_
  rotate_left
  ·rintro w' ⟨b0, b4, x0, x1, x2, x3, x4, y0, y1, y2, y3, y4⟩
   go_simp
   try with_reducible rfl
  try simp only [Act.put, zq1, zq2, zq3, zq4, zq5, zq6]
  refine tkx (i := 2) (v := ?_) hS ?_ ?_
  rotate_left
  ·rintro w' ⟨b0, b4, x0, x1, x2, x3, x4, y0, y1, y2, y3, y4⟩
   go_simp
   try with_reducible rfl
  try simp only [Act.put, zq1, zq2, zq3, zq4, zq5, zq6]
  refine tkx (i := 3) (v := ?_) hS ?_ ?_
  rotate_left
  ·rintro w' ⟨b0, b4, x0, x1, x2, x3, x4, y0, y1, y2, y3, y4⟩
   go_simp
   try with_reducible rfl
  try simp only [Act.put, zq1, zq2, zq3, zq4, zq5, zq6]
  refine tkx (i := 6) (v := ?_) hS ?_ ?_
  rotate_left
  ·rintro w' ⟨b0, b4, x0, x1, x2, x3, x4, y0, y1, y2, y3, y4⟩
   go_simp
   try with_reducible rfl
  try simp only [Act.put, zq1, zq2, zq3, zq4, zq5, zq6]
  refine tkx (i := 7) (v := ?_) hS ?_ ?_
  rotate_left
  ·rintro w' ⟨b0, b4, x0, x1, x2, x3, x4, y0, y1, y2, y3, y4⟩
   go_simp
   try with_reducible rfl
  try simp only [Act.put, zq1, zq2, zq3, zq4, zq5, zq6]
  refine tkx (i := 8) (v := .int .i64 (IntKind.i64.wrap (K - 5))) hS ?_ ?_
  ·rintro w' ⟨b0, b4, x0, x1, x2, x3, x4, y0, y1, y2, y3, y4⟩
   go_simp
   try with_reducible rfl
  try simp only [Act.put, zq1, zq2, zq3, zq4, zq5, zq6]
  rw [HK5.out]
  refine tkx (i := 12) (v := ?_) hS ?_ ?_
  rotate_left
  ·rintro w' ⟨b0, b4, x0, x1, x2, x3, x4, y0, y1, y2, y3, y4⟩
   go_simp
   try with_reducible rfl
  try simp only [Act.put, zq1, zq2, zq3, zq4, zq5, zq6]
  refine tkx (i := 13) (v := ?_) hS ?_ ?_
  rotate_left
  ·rintro w' ⟨b0, b4, x0, x1, x2, x3, x4, y0, y1, y2, y3, y4⟩
   go_simp
   try with_reducible rfl
  try simp only [Act.put, zq1, zq2, zq3, zq4, zq5, zq6]
  refine tkx (i := 14) (v := ?_) hS ?_ ?_
  rotate_left
  ·rintro w' ⟨b0, b4, x0, x1, x2, x3, x4, y0, y1, y2, y3, y4⟩
   go_simp
   try with_reducible rfl
  try simp only [Act.put, zq1, zq2, zq3, zq4, zq5, zq6]
  refine tkx (i := 15) (v := ?_) hS ?_ ?_
  rotate_left
  ·rintro w' ⟨b0, b4, x0, x1, x2, x3, x4, y0, y1, y2, y3, y4⟩
   go_simp
   try with_reducible rfl
  try simp only [Act.put, zq1, zq2, zq3, zq4, zq5, zq6]
  have qs00 : True := trivial
  all_goals (
   clear qs00
   refine anyX_2 (i := 4) (j := 5) (by kernel_rfl) (by decide) (by decide) rfl rfl rfl rfl ?_ ?_
   focus
    intro K hK
    try simp only [zq1, zq2, zq3]
    refine wp_enterE #[.agg #[.int .i64 kp, .int .i64 lop, .int .i64 hip, .string nmp, .slice Ap np cp]] Tryz.func67 (by kernel_rfl) (by kernel_rfl) ?_ (HPW.out _ hB0d.below) ?_
    ·go_simp
    rintro e V1 ⟨t1, rfl, ht1, hz1, hb⟩
    refine ⟨_, rfl, ?_⟩
    have hR1 := hB0d.bel hb
    have hS1 := HRF.out _ hR1
    have hs1 : t1.size <= 100002 := by rw [hz1]; exact HPL.out
    have HT1 := Lib.hid ht1; clear ht1 hz1
    clear hb
    refine hK _ _ hS1 ?_
    clear hK
    try simp only [Act.put, zq1, zq2, zq3, zq4, zq5, zq6]
    have qs01 : True := trivial
   rotate_left
   focus
    intro K hK
    try simp only [zq1, zq2, zq3]
    go_simp
    obtain ⟨V1, eV⟩ : ∃ W', V0.alloc (.cells #[.string ⟨#[32, 124, 32]⟩, .string ⟨#[32, 38, 32]⟩, .string ⟨#[32, 45, 32]⟩] 9) = W' := ⟨_, rfl⟩
    have hb : Below V0.heap.size V0 V1 := by rw [<- eV]; exact (Below.refl _ _).alloc (Nat.le_refl _) _
    have xa : Blk V1 V0.heap.size 9 #[.string ⟨#[32, 124, 32]⟩, .string ⟨#[32, 38, 32]⟩, .string ⟨#[32, 45, 32]⟩] := by rw [<- eV]; exact Blk.new _ _ _
    rw [eV]
    have hR1 := hB0d.bel hb
    have hS1 := HRF.out _ hR1
    clear eV hb
    refine hK _ _ hS1 ?_
    clear hK
    try simp only [Act.put, zq1, zq2, zq3, zq4, zq5, zq6]
    have qs10 : True := trivial)
  all_goals try (
   first | (clear qs10; have qs10 : True := trivial)
   fail_if_success (clear qt9)
   refine tkx (i := 9) (v := ?_) hS1 ?_ ?_
   rotate_left
   ·rintro w' ⟨b0, b4, x0, x1, x2, x3, x4, y0, y1, y2, y3, y4⟩
    go_simp
    try with_reducible rfl
   try simp only [Act.put, zq1, zq2, zq3, zq4, zq5, zq6]
   have qt9 : True := trivial)
  all_goals try (
   clear qs01
   refine anyX_2 (i := 5) (j := 16) (by kernel_rfl) (by decide) (by decide) rfl rfl rfl rfl ?_ ?_
   focus
    intro K hK
    try simp only [zq1, zq2, zq3]
    go_simp
    obtain ⟨V2, eV⟩ : ∃ W', V1.alloc (.cells #[.string ⟨#[32, 124, 32]⟩, .string ⟨#[32, 38, 32]⟩, .string ⟨#[32, 45, 32]⟩] 9) = W' := ⟨_, rfl⟩
    have hb : Below V1.heap.size V1 V2 := by rw [<- eV]; exact (Below.refl _ _).alloc (Nat.le_refl _) _
    have xa : Blk V2 V1.heap.size 9 #[.string ⟨#[32, 124, 32]⟩, .string ⟨#[32, 38, 32]⟩, .string ⟨#[32, 45, 32]⟩] := by rw [<- eV]; exact Blk.new _ _ _
    rw [eV]
    have hR2 := hR1.bel hb
    have hS2 := HRF.out _ hR2
    clear eV hb
    refine hK _ _ hS2 ?_
    clear hK
    try simp only [Act.put, zq1, zq2, zq3, zq4, zq5, zq6]
    have qs11 : True := trivial
   rotate_left
   focus
    intro K hK
    try simp only [zq1, zq2, zq3]
    refine wp_enterE #[.agg #[.int .i64 kq, .int .i64 loq, .int .i64 hiq, .string nmq, .slice Aq nq cq]] Tryz.func67 (by kernel_rfl) (by kernel_rfl) ?_ (HQW.out _ hR1.below) ?_
    ·go_simp
    rintro e V2 ⟨t2, rfl, ht2, hz2, hb⟩
    refine ⟨_, rfl, ?_⟩
    have hR2 := hR1.bel hb
    have hS2 := HRF.out _ hR2
    have hs2 : t2.size <= 100002 := by rw [hz2]; exact HQL.out
    have HT2 := Lib.hid ht2; clear ht2 hz2
    clear hb
    refine hK _ _ hS2 ?_
    clear hK
    try simp only [Act.put, zq1, zq2, zq3, zq4, zq5, zq6]
    have qs02 : True := trivial)
  all_goals try (
   clear qs10
   refine anyX_2 (i := 4) (j := 10) (by kernel_rfl) (by decide) (by decide) rfl rfl rfl rfl ?_ ?_
   focus
    intro K hK
    try simp only [zq1, zq2, zq3]
    refine wp_enterE #[.agg #[.int .i64 kp, .int .i64 lop, .int .i64 hip, .string nmp, .slice Ap np cp]] Tryz.func67 (by kernel_rfl) (by kernel_rfl) ?_ (HPW.out _ hR1.below) ?_
    ·go_simp
    rintro e V2 ⟨t1, rfl, ht1, hz1, hb⟩
    refine ⟨_, rfl, ?_⟩
    have hR2 := hR1.bel hb
    have hS2 := HRF.out _ hR2
    have hs1 : t1.size <= 100002 := by rw [hz1]; exact HPL.out
    have HT1 := Lib.hid ht1; clear ht1 hz1
    replace xa := Blk.below xa hb (Blk.lt xa)
    clear hb
    refine hK _ _ hS2 ?_
    clear hK
    try simp only [Act.put, zq1, zq2, zq3, zq4, zq5, zq6]
    have qs11 : True := trivial
   rotate_left
   focus
    intro K hK
    try simp only [zq1, zq2, zq3]
    obtain ⟨tc, htc, hsc, ca⟩ := sep_cell xa (show j <= 2 by omega) x HX.out
    have hsc' : tc.size <= 3 := by omega
    have HTC := Lib.hid htc; clear htc hsc
    go_simp
    have hR2 := hR1
    have hS2 := hS1
    refine hK _ _ hS1 ?_
    clear hK ca xa
    try simp only [Act.put, zq1, zq2, zq3, zq4, zq5, zq6]
    have qs20 : True := trivial)
  all_goals try (
   first | (clear qs11; have qs11 : True := trivial) | (clear qs20; have qs20 : True := trivial)
   fail_if_success (clear qt9)
   refine tkx (i := 9) (v := ?_) hS2 ?_ ?_
   rotate_left
   ·rintro w' ⟨b0, b4, x0, x1, x2, x3, x4, y0, y1, y2, y3, y4⟩
    go_simp
    try with_reducible rfl
   try simp only [Act.put, zq1, zq2, zq3, zq4, zq5, zq6]
   have qt9 : True := trivial)
  all_goals try (
   clear qs02
   refine anyX_g (i := 5) (by kernel_rfl) (by decide) rfl (by rfl) ?_
   intro K hK
   try simp only [zq1, zq2, zq3]
   go_simp
   obtain ⟨V3, eV⟩ : ∃ W', V2.alloc (.cells #[.string ⟨#[32, 124, 32]⟩, .string ⟨#[32, 38, 32]⟩, .string ⟨#[32, 45, 32]⟩] 9) = W' := ⟨_, rfl⟩
   have hb : Below V2.heap.size V2 V3 := by rw [<- eV]; exact (Below.refl _ _).alloc (Nat.le_refl _) _
   have xa : Blk V3 V2.heap.size 9 #[.string ⟨#[32, 124, 32]⟩, .string ⟨#[32, 38, 32]⟩, .string ⟨#[32, 45, 32]⟩] := by rw [<- eV]; exact Blk.new _ _ _
   rw [eV]
   have hR3 := hR2.bel hb
   have hS3 := HRF.out _ hR3
   clear eV hb
   refine hK _ _ hS3 ?_
   clear hK
   try simp only [Act.put, zq1, zq2, zq3, zq4, zq5, zq6]
   have qs12 : True := trivial)
  all_goals try (
   clear qs11
   refine anyX_2 (i := 10) (j := 16) (by kernel_rfl) (by decide) (by decide) rfl rfl rfl rfl ?_ ?_
   focus
    intro K hK
    try simp only [zq1, zq2, zq3]
    obtain ⟨tc, htc, hsc, ca⟩ := sep_cell xa (show j <= 2 by omega) x HX.out
    have hsc' : tc.size <= 3 := by omega
    have HTC := Lib.hid htc; clear htc hsc
    go_simp
    have hR3 := hR2
    have hS3 := hS2
    refine hK _ _ hS2 ?_
    clear hK ca xa
    try simp only [Act.put, zq1, zq2, zq3, zq4, zq5, zq6]
    have qs21 : True := trivial
   rotate_left
   focus
    intro K hK
    try simp only [zq1, zq2, zq3]
    refine wp_enterE #[.agg #[.int .i64 kq, .int .i64 loq, .int .i64 hiq, .string nmq, .slice Aq nq cq]] Tryz.func67 (by kernel_rfl) (by kernel_rfl) ?_ (HQW.out _ hR2.below) ?_
    ·go_simp
    rintro e V3 ⟨t2, rfl, ht2, hz2, hb⟩
    refine ⟨_, rfl, ?_⟩
    have hR3 := hR2.bel hb
    have hS3 := HRF.out _ hR3
    have hs2 : t2.size <= 100002 := by rw [hz2]; exact HQL.out
    have HT2 := Lib.hid ht2; clear ht2 hz2
    replace xa := Blk.below xa hb (Blk.lt xa)
    clear hb
    refine hK _ _ hS3 ?_
    clear hK
    try simp only [Act.put, zq1, zq2, zq3, zq4, zq5, zq6]
    have qs12 : True := trivial)
  all_goals try (
   clear qs20
   refine anyX_g (i := 4) (by kernel_rfl) (by decide) rfl (by rfl) ?_
   intro K hK
   try simp only [zq1, zq2, zq3]
   refine wp_enterE #[.agg #[.int .i64 kp, .int .i64 lop, .int .i64 hip, .string nmp, .slice Ap np cp]] Tryz.func67 (by kernel_rfl) (by kernel_rfl) ?_ (HPW.out _ hR2.below) ?_
   ·go_simp
   rintro e V3 ⟨t1, rfl, ht1, hz1, hb⟩
   refine ⟨_, rfl, ?_⟩
   have hR3 := hR2.bel hb
   have hS3 := HRF.out _ hR3
   have hs1 : t1.size <= 100002 := by rw [hz1]; exact HPL.out
   have HT1 := Lib.hid ht1; clear ht1 hz1
   clear hb
   refine hK _ _ hS3 ?_
   clear hK
   try simp only [Act.put, zq1, zq2, zq3, zq4, zq5, zq6]
   have qs21 : True := trivial)
  all_goals try (
   first | (clear qs12; have qs12 : True := trivial) | (clear qs21; have qs21 : True := trivial)
   fail_if_success (clear qt9)
   refine tkx (i := 9) (v := ?_) hS3 ?_ ?_
   rotate_left
   ·rintro w' ⟨b0, b4, x0, x1, x2, x3, x4, y0, y1, y2, y3, y4⟩
    go_simp
    try with_reducible rfl
   try simp only [Act.put, zq1, zq2, zq3, zq4, zq5, zq6]
   have qt9 : True := trivial)
  all_goals try (
   first | (clear qs21; have qs21 : True := trivial)
   fail_if_success (clear qt11)
   have g1 : ¬ 9223372036854775807 < t1.size + tc.size := by omega
   refine tkx (i := 11) (v := ?_) hS3 ?_ ?_
   rotate_left
   ·rintro w' ⟨b0, b4, x0, x1, x2, x3, x4, y0, y1, y2, y3, y4⟩
    go_simp
    try with_reducible rfl
   try simp only [Act.put, zq1, zq2, zq3, zq4, zq5, zq6]
   have qt11 : True := trivial)
  all_goals try (
   clear qs12
   refine anyX_g (i := 10) (by kernel_rfl) (by decide) rfl (by rfl) ?_
   intro K hK
   try simp only [zq1, zq2, zq3]
   obtain ⟨tc, htc, hsc, ca⟩ := sep_cell xa (show j <= 2 by omega) x HX.out
   have hsc' : tc.size <= 3 := by omega
   have HTC := Lib.hid htc; clear htc hsc
   go_simp
   have hR4 := hR3
   have hS4 := hS3
   refine hK _ _ hS3 ?_
   clear hK ca xa
   try simp only [Act.put, zq1, zq2, zq3, zq4, zq5, zq6]
   have qs22 : True := trivial)
  all_goals try (
   clear qs21
   refine anyX_g (i := 16) (by kernel_rfl) (by decide) rfl (by rfl) ?_
   intro K hK
   try simp only [zq1, zq2, zq3]
   refine wp_enterE #[.agg #[.int .i64 kq, .int .i64 loq, .int .i64 hiq, .string nmq, .slice Aq nq cq]] Tryz.func67 (by kernel_rfl) (by kernel_rfl) ?_ (HQW.out _ hR3.below) ?_
   ·go_simp
   rintro e V4 ⟨t2, rfl, ht2, hz2, hb⟩
   refine ⟨_, rfl, ?_⟩
   have hR4 := hR3.bel hb
   have hS4 := HRF.out _ hR4
   have hs2 : t2.size <= 100002 := by rw [hz2]; exact HQL.out
   have HT2 := Lib.hid ht2; clear ht2 hz2
   clear hb
   refine hK _ _ hS4 ?_
   clear hK
   try simp only [Act.put, zq1, zq2, zq3, zq4, zq5, zq6]
   have qs22 : True := trivial)
  all_goals try (
   first | (clear qs22; have qs22 : True := trivial)
   fail_if_success (clear qt11)
   have g1 : ¬ 9223372036854775807 < t1.size + tc.size := by omega
   refine tkx (i := 11) (v := ?_) hS4 ?_ ?_
   rotate_left
   ·rintro w' ⟨b0, b4, x0, x1, x2, x3, x4, y0, y1, y2, y3, y4⟩
    go_simp
    try with_reducible rfl
   try simp only [Act.put, zq1, zq2, zq3, zq4, zq5, zq6]
   have qt11 : True := trivial)
  all_goals (
   first | (clear qs22; have qs22 : True := trivial)
   fail_if_success (clear qt17)
   have g2 : ¬ 9223372036854775807 < t1.size + tc.size + t2.size := by omega
   refine tkx (i := 17) (v := ?_) hS4 ?_ ?_
   rotate_left
   ·rintro w' ⟨b0, b4, x0, x1, x2, x3, x4, y0, y1, y2, y3, y4⟩
    go_simp
    try with_reducible rfl
   try simp only [Act.put, zq1, zq2, zq3, zq4, zq5, zq6]
   have qt17 : True := trivial)
  all_goals (
   have HE := Lib.hid hR4.below
   refine anyX_last (by kernel_rfl) (by kernel_rfl) rfl rfl ?_
   try simp only [zq1, zq2, zq3]
   go_simp
   try apply_assumption
   clear g1 g2
   go_wp2_with fail
   go_ret
   exact WrR.mk' _ (by simp [HT1.out, HT2.out, HTC.out]) HE.out)
theorem Cls.text_le : ∀ {p : Cls} {m : Nat}, p.text.length <= m -> ∀ q ∈ p.kids, q.text.length <= m := by
 have wl : ∀ (b : Bool) (l : Bs), l.length <= (within_ b l).length := fun b l => by cases b <;> simp [within_] <;> omega
 intro p m h q hq
 cases p with
 | range x y => simp [Cls.kids] at hq
 | name s => simp [Cls.kids] at hq
 | any_ => simp [Cls.kids] at hq
 | not_ a =>
   simp only [Cls.text, List.length_append, List.length_cons] at h
   have h1 := wl a.atom a.text
   obtain rfl := List.mem_singleton.1 hq
   omega
 | or_ a b =>
   simp only [Cls.text, List.length_append, List.length_cons] at h
   have h1 := wl a.atom a.text; have h2 := wl b.atom b.text
   simp only [Cls.kids, List.mem_cons, List.not_mem_nil, or_false] at hq
   rcases hq with rfl | rfl <;> omega
 | and_ a b =>
   simp only [Cls.text, List.length_append, List.length_cons] at h
   have h1 := wl a.atom a.text; have h2 := wl b.atom b.text
   simp only [Cls.kids, List.mem_cons, List.not_mem_nil, or_false] at hq
   rcases hq with rfl | rfl <;> omega
 | less a b =>
   simp only [Cls.text, List.length_append, List.length_cons] at h
   have h1 := wl a.atom a.text; have h2 := wl b.atom b.text
   simp only [Cls.kids, List.mem_cons, List.not_mem_nil, or_false] at hq
   rcases hq with rfl | rfl <;> omega
theorem rclass_ok {D : List Bs} (p : Cls) (hs : p.Ok D) (hl : p.text.length <= 100000) : RcSpec 35 p p.text := by
 induction p with
 | range x y => exact rclass_range x y hs.1 hs.2
 | name s =>
   have := rclass_leaf (.name s) ⟨s.toArray⟩ (.inr (by simp))
   simpa [Cls.text] using this
 | any_ => exact rclass_leaf .any_ ⟨#[97, 110, 121]⟩ (.inl ⟨rfl, rfl⟩)
 | not_ a ih =>
   have la := Cls.text_le hl a (by simp [Cls.kids])
   exact rclass_not a la (rwithin_ok a (by omega) (ih hs la))
 | or_ a b iha ihb =>
   have la := Cls.text_le hl a (by simp [Cls.kids]); have lb := Cls.text_le hl b (by simp [Cls.kids])
   intro w S v hT
   exact rclass_two a b 5 0 124 rfl (by decide) rfl la lb (rwithin_ok a (by omega) (iha hs.1 la)) (rwithin_ok b (by omega) (ihb hs.2 lb)) w S v hT
 | and_ a b iha ihb =>
   have la := Cls.text_le hl a (by simp [Cls.kids]); have lb := Cls.text_le hl b (by simp [Cls.kids])
   intro w S v hT
   exact rclass_two a b 6 1 38 rfl (by decide) rfl la lb (rwithin_ok a (by omega) (iha hs.1 la)) (rwithin_ok b (by omega) (ihb hs.2 lb)) w S v hT
 | less a b iha ihb =>
   have la := Cls.text_le hl a (by simp [Cls.kids]); have lb := Cls.text_le hl b (by simp [Cls.kids])
   intro w S v hT
   exact rclass_two a b 7 2 45 rfl (by decide) rfl la lb (rwithin_ok a (by omega) (iha hs.1 la)) (rwithin_ok b (by omega) (ihb hs.2 lb)) w S v hT
end Go.Proofs.YtalgnnidhnhciaaGreatDoor
