/- Deep brackets: what the reader tells of them, by plain mathematics. The law SynDeep, walked. -/
import Derived.Test.YtalgnnidhnhciaaGreatDoorUSynKa
set_option linter.unusedVariables false
set_option linter.unusedSimpArgs false
namespace Go.Proofs.YtalgnnidhnhciaaGreatDoor
open Go Go.RowKit Go.Proofs

def dT (j k : Nat) : Bs := if j = 0 then (([99, 108, 97, 115, 115, 32, 113, 32, 61, 32] ++ List.replicate k 40) ++ [39, 97, 39] ++ List.replicate k 41) ++ [59] else if j = 1 then (([99, 108, 97, 115, 115, 32, 113, 32, 61, 32] ++ List.replicate k 33) ++ [39, 97, 39] ++ []) ++ [59] else (([108, 105, 110, 101, 32, 49, 58, 32] ++ List.replicate k 40) ++ [97, 110, 121] ++ List.replicate k 41) ++ [32, 47, 32, 59]
def dOk (j k : Nat) : Bool :=
  match parseT (dT j k) with
  | (_, p, e) => if Nat.ble k 12 then e == 0 && p == 0 else e == 2 && p == (if j = 2 then 20 else 22)
theorem dAll : ((List.range 3).all fun j => (List.range 18).all fun k => dOk j k) = true := by kernel_rfl
theorem dOk_all {j k : Nat} (hj : j < 3) (hk : k < 18) : dOk j k = true :=
  List.all_eq_true.1 (List.all_eq_true.1 dAll j (List.mem_range.2 hj)) k (List.mem_range.2 hk)
theorem rep_next (c : UInt8) (i : Nat) : List.replicate i c ++ [c] = List.replicate (i + 1) c := List.replicate_succ'.symm
end Go.Proofs.YtalgnnidhnhciaaGreatDoor

namespace Go.Proofs.YtalgnnidhnhciaaGreatDoor
open Go Go.RowKit Go.Proofs
set_option linter.unusedVariables false

set_option maxRecDepth 100000 in
set_option maxHeartbeats 8000000 in
theorem synDeep_walk (a0 a1 : Int) (w : World) (w0 : (Lit.int .i64 a0).wf = true) (w1 : (Lit.int .i64 a1).wf = true) (hE : ErrV w) (hT : TabD w) :
    Calls Tryz.prog 7 #[.int .i64 a0, .int .i64 a1] w fun e w' => e = .returned (.bool true) ∧ Below w.heap.size w w' := by
  obtain ⟨k, hk, hkc⟩ := within5_nat a0 18 (by omega) (by omega) w
  obtain ⟨j, hj, hjc⟩ := within5_nat a1 3 (by omega) (by omega) w
  have HKC := Lib.hid hkc; have HJC := Lib.hid hjc; have HKN := Lib.hid (known5_ok w hE hT); have HE := Lib.hid hE
  clear hkc hjc hE hT w0 w1
  have k0 : (0 : Int) ≤ (k : Int) := Int.natCast_nonneg _
  have hj3 : j = 0 ∨ j = 1 ∨ j = 2 := by omega
  clear hj
  go_enter Tryz.func7, Tryz.ntmps7
  go_wp2_with fail
  refine HKN.out.mono ?_
  rintro e W ⟨rfl, hb⟩
  have hE := HE.out.below hb
  have HB := Lib.hid hb; clear hb HE HKN
  have HE := Lib.hid hE; clear hE
  go_wp2_with fail
  refine (HKC.out _).mono ?_
  rintro e W1 ⟨rfl, rfl⟩
  clear HKC
  go_wp2_with fail
  refine (HJC.out _).mono ?_
  rintro e W1 ⟨rfl, hW1⟩
  have hB1 : Below w.heap.size w W1 := by rw [← hW1]; exact HB.out.alloc HB.out.size _
  have hE1 : ErrV W1 := by rw [← hW1]; exact HE.out.alloc _
  have c0 : W1.cell? ⟨W.heap.size, 0, none⟩ = some (.string ⟨#[40]⟩) := by rw [← hW1]; simp [go_sem]
  have c1 : W1.cell? ⟨W.heap.size, 1, none⟩ = some (.string ⟨#[33]⟩) := by rw [← hW1]; simp [go_sem]
  have c2 : W1.cell? ⟨W.heap.size, 2, none⟩ = some (.string ⟨#[40]⟩) := by rw [← hW1]; simp [go_sem]
  have HB1 := Lib.hid hB1; have HE1 := Lib.hid hE1
  clear hB1 hE1 HB HE hW1
  have HB := HB1; have HE := HE1
  clear HB1 HE1
  rcases hj3 with rfl | rfl | rfl
  ·
    go_wp2_with fail
    go_loopg [6, 7, 9] k (fun gk va vb vi wr => ∃ (i : Nat) (s t : ByteArray), vi = .int .i64 i ∧ va = .string s ∧ vb = .string t ∧ gk = k - i ∧ i ≤ k ∧ s.size ≤ 20 ∧ t.size ≤ 20 ∧ Hid (s.data.toList = List.replicate i 40) ∧ Hid (t.data.toList = List.replicate i 41) ∧ W1 = wr)
    case atStart => exact ⟨0, _, _, rfl, rfl, rfl, rfl, Nat.zero_le _, by decide, by decide, Lib.hid rfl, Lib.hid rfl, rfl⟩
    case round =>
      obtain ⟨i, s, t, rfl, rfl, rfl, hgk, hi, hs9, ht9, HS, HT, rfl⟩ := hrel
      have HGK := Lib.hid hgk; clear hgk
      have i0 : (0 : Int) ≤ (i : Int) := Int.natCast_nonneg _
      have hsz : s.size = i := by show s.data.toList.length = i; rw [HS.out]; simp
      have htz : t.size = i := by show t.data.toList.length = _; rw [HT.out]; simp
      by_cases hlt : i < k
      · have i1 : (i : Int) < (k : Int) := by omega
        have HAA : Hid (∀ x y : ByteArray, x.data.toList = List.replicate i 40 → y.data.toList = [40] → (x ++ y).data.toList = List.replicate (i + 1) 40) := Lib.hid fun x y h1 h2 => by
          simp only [ByteArray.data_append, Array.toList_append, h1, h2]; exact rep_next 40 i
        have HBB : Hid (∀ x y : ByteArray, x.data.toList = List.replicate i 41 → y.data.toList = [41] → (x ++ y).data.toList = List.replicate (i + 1) 41) := Lib.hid fun x y h1 h2 => by
          simp only [ByteArray.data_append, Array.toList_append, h1, h2]; exact rep_next 41 i
        clear hs9 ht9
        go_wp2_with fail
        go_roundg (k - (i + 1))
        case measure => have := HGK.out; omega
        case rel => exact ⟨i + 1, _, _, by go_num, rfl, rfl, rfl, hlt, by rw [ByteArray.size_append, show ((⟨#[40]⟩ : ByteArray).size = 1) from rfl]; omega, by rw [ByteArray.size_append, show ((⟨#[41]⟩ : ByteArray).size = 1) from rfl]; omega, Lib.hid (HAA.out _ _ HS.out rfl), Lib.hid (HBB.out _ _ HT.out rfl), rfl⟩
      · have hik : i = k := by omega
        subst hik
        have hTX : ∀ x1 x2 x3 : ByteArray, x1.data.toList = [99, 108, 97, 115, 115, 32, 113, 32, 61, 32] → x2.data.toList = [39, 97, 39] → x3.data.toList = [59] → (x1 ++ s ++ x2 ++ t ++ x3).data.toList = dT 0 i := fun x1 x2 x3 h1 h2 h3 => by
          simp only [ByteArray.data_append, Array.toList_append, h1, h2, h3, HS.out, HT.out]
          rfl
        have HTX := Lib.hid hTX
        clear HGK hTX hlt hi
        go_wp2_with fail
        refine (HJC.out _).mono ?_
        rintro e W2 ⟨rfl, rfl⟩
        go_wp2_with fail
        obtain ⟨X, hX⟩ : ∃ X : ByteArray, ({ data := #[99, 108, 97, 115, 115, 32, 113, 32, 61, 32] } : ByteArray) ++ s ++ { data := #[39, 97, 39] } ++ t ++ { data := #[59] } = X := ⟨_, rfl⟩
        have hXT : X.data.toList = dT 0 i := by rw [← hX]; exact HTX.out _ _ _ rfl rfl rfl
        try rw [hX]
        clear hX
        refine (parse_any _ X HE.out).mono ?_
        rintro e w2 ⟨ds, rs, ⟨⟨P1, P2⟩, P3, P4⟩, rfl, hP, hd, hr, hb2⟩
        have hm := dOk_all (j := 0) (k := i) (by omega) (by omega)
        unfold dOk at hm
        rw [← hXT, hP] at hm
        obtain ⟨Ad, cd, rfl, hd1, hd2, -⟩ := hd.form
        obtain ⟨Ar, cr, rfl, hr1, hr2, -⟩ := hr.form
        unfold maxLen at hd2 hr2
        have HB2 := Lib.hid (HB.out.trans (hb2.mono HB.out.size))
        dsimp only at hd1 hr1 hm ⊢
        obtain ⟨n1, hn1⟩ : ∃ n, P1.length = n := ⟨_, rfl⟩
        obtain ⟨n2, hn2⟩ : ∃ n, P2.length = n := ⟨_, rfl⟩
        rw [hn1] at hd1 ⊢
        rw [hn2] at hr1 ⊢
        clear hd hr hP hn1 hn2 hb2 HS HT HE HB hXT HTX HJC
        by_cases h12 : i ≤ 12
        · have r12 : (i : Int) ≤ 12 := by omega
          have hb : Nat.ble i 12 = true := Nat.ble_eq_true_of_le h12
          rw [hb, if_pos rfl] at hm
          simp only [Bool.and_eq_true, beq_iff_eq] at hm
          obtain ⟨rfl, rfl⟩ := hm
          clear hb
          go_wp2_with fail
          go_ret
          exact ⟨rfl, HB2.out.alloc HB2.out.size _⟩
        · have r12 : ¬ (i : Int) ≤ 12 := by omega
          have hb : Nat.ble i 12 = false := by cases hq : Nat.ble i 12 with | false => rfl | true => exact absurd (Nat.le_of_ble_eq_true hq) h12
          rw [hb, if_neg (by simp)] at hm
          simp at hm
          obtain ⟨rfl, rfl⟩ := hm
          clear hb
          go_wp2_with fail
          go_ret
          exact ⟨rfl, HB2.out.alloc HB2.out.size _⟩
  ·
    go_wp2_with fail
    go_loopg [6, 7, 9] k (fun gk va vb vi wr => ∃ (i : Nat) (s t : ByteArray), vi = .int .i64 i ∧ va = .string s ∧ vb = .string t ∧ gk = k - i ∧ i ≤ k ∧ s.size ≤ 20 ∧ t.size ≤ 20 ∧ Hid (s.data.toList = List.replicate i 33) ∧ Hid (t.data.toList = []) ∧ W1 = wr)
    case atStart => exact ⟨0, _, _, rfl, rfl, rfl, rfl, Nat.zero_le _, by decide, by decide, Lib.hid rfl, Lib.hid rfl, rfl⟩
    case round =>
      obtain ⟨i, s, t, rfl, rfl, rfl, hgk, hi, hs9, ht9, HS, HT, rfl⟩ := hrel
      have HGK := Lib.hid hgk; clear hgk
      have i0 : (0 : Int) ≤ (i : Int) := Int.natCast_nonneg _
      have hsz : s.size = i := by show s.data.toList.length = i; rw [HS.out]; simp
      have htz : t.size = 0 := by show t.data.toList.length = _; rw [HT.out]; simp
      by_cases hlt : i < k
      · have i1 : (i : Int) < (k : Int) := by omega
        have HAA : Hid (∀ x y : ByteArray, x.data.toList = List.replicate i 33 → y.data.toList = [33] → (x ++ y).data.toList = List.replicate (i + 1) 33) := Lib.hid fun x y h1 h2 => by
          simp only [ByteArray.data_append, Array.toList_append, h1, h2]; exact rep_next 33 i
        clear hs9 ht9
        go_wp2_with fail
        go_roundg (k - (i + 1))
        case measure => have := HGK.out; omega
        case rel => exact ⟨i + 1, _, _, by go_num, rfl, rfl, rfl, hlt, by rw [ByteArray.size_append, show ((⟨#[33]⟩ : ByteArray).size = 1) from rfl]; omega, by omega, Lib.hid (HAA.out _ _ HS.out rfl), HT, rfl⟩
      · have hik : i = k := by omega
        subst hik
        have hTX : ∀ x1 x2 x3 : ByteArray, x1.data.toList = [99, 108, 97, 115, 115, 32, 113, 32, 61, 32] → x2.data.toList = [39, 97, 39] → x3.data.toList = [59] → (x1 ++ s ++ x2 ++ t ++ x3).data.toList = dT 1 i := fun x1 x2 x3 h1 h2 h3 => by
          simp only [ByteArray.data_append, Array.toList_append, h1, h2, h3, HS.out, HT.out]
          rfl
        have HTX := Lib.hid hTX
        clear HGK hTX hlt hi
        go_wp2_with fail
        refine (HJC.out _).mono ?_
        rintro e W2 ⟨rfl, rfl⟩
        go_wp2_with fail
        obtain ⟨X, hX⟩ : ∃ X : ByteArray, ({ data := #[99, 108, 97, 115, 115, 32, 113, 32, 61, 32] } : ByteArray) ++ s ++ { data := #[39, 97, 39] } ++ t ++ { data := #[59] } = X := ⟨_, rfl⟩
        have hXT : X.data.toList = dT 1 i := by rw [← hX]; exact HTX.out _ _ _ rfl rfl rfl
        try rw [hX]
        clear hX
        refine (parse_any _ X HE.out).mono ?_
        rintro e w2 ⟨ds, rs, ⟨⟨P1, P2⟩, P3, P4⟩, rfl, hP, hd, hr, hb2⟩
        have hm := dOk_all (j := 1) (k := i) (by omega) (by omega)
        unfold dOk at hm
        rw [← hXT, hP] at hm
        obtain ⟨Ad, cd, rfl, hd1, hd2, -⟩ := hd.form
        obtain ⟨Ar, cr, rfl, hr1, hr2, -⟩ := hr.form
        unfold maxLen at hd2 hr2
        have HB2 := Lib.hid (HB.out.trans (hb2.mono HB.out.size))
        dsimp only at hd1 hr1 hm ⊢
        obtain ⟨n1, hn1⟩ : ∃ n, P1.length = n := ⟨_, rfl⟩
        obtain ⟨n2, hn2⟩ : ∃ n, P2.length = n := ⟨_, rfl⟩
        rw [hn1] at hd1 ⊢
        rw [hn2] at hr1 ⊢
        clear hd hr hP hn1 hn2 hb2 HS HT HE HB hXT HTX HJC
        by_cases h12 : i ≤ 12
        · have r12 : (i : Int) ≤ 12 := by omega
          have hb : Nat.ble i 12 = true := Nat.ble_eq_true_of_le h12
          rw [hb, if_pos rfl] at hm
          simp only [Bool.and_eq_true, beq_iff_eq] at hm
          obtain ⟨rfl, rfl⟩ := hm
          clear hb
          go_wp2_with fail
          go_ret
          exact ⟨rfl, HB2.out.alloc HB2.out.size _⟩
        · have r12 : ¬ (i : Int) ≤ 12 := by omega
          have hb : Nat.ble i 12 = false := by cases hq : Nat.ble i 12 with | false => rfl | true => exact absurd (Nat.le_of_ble_eq_true hq) h12
          rw [hb, if_neg (by simp)] at hm
          simp at hm
          obtain ⟨rfl, rfl⟩ := hm
          clear hb
          go_wp2_with fail
          go_ret
          exact ⟨rfl, HB2.out.alloc HB2.out.size _⟩
  ·
    go_wp2_with fail
    go_loopg [6, 7, 9] k (fun gk va vb vi wr => ∃ (i : Nat) (s t : ByteArray), vi = .int .i64 i ∧ va = .string s ∧ vb = .string t ∧ gk = k - i ∧ i ≤ k ∧ s.size ≤ 20 ∧ t.size ≤ 20 ∧ Hid (s.data.toList = List.replicate i 40) ∧ Hid (t.data.toList = List.replicate i 41) ∧ W1 = wr)
    case atStart => exact ⟨0, _, _, rfl, rfl, rfl, rfl, Nat.zero_le _, by decide, by decide, Lib.hid rfl, Lib.hid rfl, rfl⟩
    case round =>
      obtain ⟨i, s, t, rfl, rfl, rfl, hgk, hi, hs9, ht9, HS, HT, rfl⟩ := hrel
      have HGK := Lib.hid hgk; clear hgk
      have i0 : (0 : Int) ≤ (i : Int) := Int.natCast_nonneg _
      have hsz : s.size = i := by show s.data.toList.length = i; rw [HS.out]; simp
      have htz : t.size = i := by show t.data.toList.length = _; rw [HT.out]; simp
      by_cases hlt : i < k
      · have i1 : (i : Int) < (k : Int) := by omega
        have HAA : Hid (∀ x y : ByteArray, x.data.toList = List.replicate i 40 → y.data.toList = [40] → (x ++ y).data.toList = List.replicate (i + 1) 40) := Lib.hid fun x y h1 h2 => by
          simp only [ByteArray.data_append, Array.toList_append, h1, h2]; exact rep_next 40 i
        have HBB : Hid (∀ x y : ByteArray, x.data.toList = List.replicate i 41 → y.data.toList = [41] → (x ++ y).data.toList = List.replicate (i + 1) 41) := Lib.hid fun x y h1 h2 => by
          simp only [ByteArray.data_append, Array.toList_append, h1, h2]; exact rep_next 41 i
        clear hs9 ht9
        go_wp2_with fail
        go_roundg (k - (i + 1))
        case measure => have := HGK.out; omega
        case rel => exact ⟨i + 1, _, _, by go_num, rfl, rfl, rfl, hlt, by rw [ByteArray.size_append, show ((⟨#[40]⟩ : ByteArray).size = 1) from rfl]; omega, by rw [ByteArray.size_append, show ((⟨#[41]⟩ : ByteArray).size = 1) from rfl]; omega, Lib.hid (HAA.out _ _ HS.out rfl), Lib.hid (HBB.out _ _ HT.out rfl), rfl⟩
      · have hik : i = k := by omega
        subst hik
        have hTX : ∀ x1 x2 x3 : ByteArray, x1.data.toList = [108, 105, 110, 101, 32, 49, 58, 32] → x2.data.toList = [97, 110, 121] → x3.data.toList = [32, 47, 32, 59] → (x1 ++ s ++ x2 ++ t ++ x3).data.toList = dT 2 i := fun x1 x2 x3 h1 h2 h3 => by
          simp only [ByteArray.data_append, Array.toList_append, h1, h2, h3, HS.out, HT.out]
          rfl
        have HTX := Lib.hid hTX
        clear HGK hTX hlt hi
        go_wp2_with fail
        refine (HJC.out _).mono ?_
        rintro e W2 ⟨rfl, rfl⟩
        go_wp2_with fail
        obtain ⟨X, hX⟩ : ∃ X : ByteArray, ({ data := #[108, 105, 110, 101, 32, 49, 58, 32] } : ByteArray) ++ s ++ { data := #[97, 110, 121] } ++ t ++ { data := #[32, 47, 32, 59] } = X := ⟨_, rfl⟩
        have hXT : X.data.toList = dT 2 i := by rw [← hX]; exact HTX.out _ _ _ rfl rfl rfl
        try rw [hX]
        clear hX
        refine (parse_any _ X HE.out).mono ?_
        rintro e w2 ⟨ds, rs, ⟨⟨P1, P2⟩, P3, P4⟩, rfl, hP, hd, hr, hb2⟩
        have hm := dOk_all (j := 2) (k := i) (by omega) (by omega)
        unfold dOk at hm
        rw [← hXT, hP] at hm
        obtain ⟨Ad, cd, rfl, hd1, hd2, -⟩ := hd.form
        obtain ⟨Ar, cr, rfl, hr1, hr2, -⟩ := hr.form
        unfold maxLen at hd2 hr2
        have HB2 := Lib.hid (HB.out.trans (hb2.mono HB.out.size))
        dsimp only at hd1 hr1 hm ⊢
        obtain ⟨n1, hn1⟩ : ∃ n, P1.length = n := ⟨_, rfl⟩
        obtain ⟨n2, hn2⟩ : ∃ n, P2.length = n := ⟨_, rfl⟩
        rw [hn1] at hd1 ⊢
        rw [hn2] at hr1 ⊢
        clear hd hr hP hn1 hn2 hb2 HS HT HE HB hXT HTX HJC
        by_cases h12 : i ≤ 12
        · have r12 : (i : Int) ≤ 12 := by omega
          have hb : Nat.ble i 12 = true := Nat.ble_eq_true_of_le h12
          rw [hb, if_pos rfl] at hm
          simp only [Bool.and_eq_true, beq_iff_eq] at hm
          obtain ⟨rfl, rfl⟩ := hm
          clear hb
          go_wp2_with fail
          go_ret
          exact ⟨rfl, HB2.out.alloc HB2.out.size _⟩
        · have r12 : ¬ (i : Int) ≤ 12 := by omega
          have hb : Nat.ble i 12 = false := by cases hq : Nat.ble i 12 with | false => rfl | true => exact absurd (Nat.le_of_ble_eq_true hq) h12
          rw [hb, if_neg (by simp)] at hm
          simp at hm
          obtain ⟨rfl, rfl⟩ := hm
          clear hb
          go_wp2_with fail
          go_ret
          exact ⟨rfl, HB2.out.alloc HB2.out.size _⟩

end Go.Proofs.YtalgnnidhnhciaaGreatDoor
