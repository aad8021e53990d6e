/- Contracts of the document's own Has, key, Letter, Count. -/
import Derived.Test.YthbnhdocjnhhlaaPartD
namespace Go.Proofs.Ythbnhdocjnhhlaa
open Go Go.RowKit
set_option linter.unusedVariables false

theorem inS_snoc (l : List (Int × Int)) (k : Nat) (hk : k < l.length) (x : Int) : inS (l.take (k + 1)) x ↔ inS (l.take k) x ∨ ((l.getD k (0, 0)).1 ≤ x ∧ x ≤ (l.getD k (0, 0)).2) := by
  have e : l.getD k (0, 0) = l[k] := by simp [List.getD, List.getElem?_eq_getElem hk]
  rw [List.take_succ_eq_append_getElem hk, inS_append, e]
  simp [inS]
set_option maxHeartbeats 1000000 in
theorem rhas_any {w : World} {v : Value} {n : Nat} {l : List (Int × Int)} {x : Int} (h : ReadsP w v n l) :
    Calls Try.prog 23 #[v, .int .i64 x] w fun e w' => e = .returned (.bool (hasB l x)) ∧ w = w' := by
  obtain ⟨a, cap, rfl, hc, hm, hl⟩ := h.form
  have H := Lib.hid h; have HL := Lib.hid hl; clear h hl
  go_enter Try.func23, Try.ntmps23
  go_wp2_with fail
  go_loop [5] (fun i => ∃ (k : Nat), k ≤ n ∧ i = .int .i64 k ∧ Hid (¬ inS (l.take k) x)) (fun i => n - (intOf i).toNat)
  case atStart => exact ⟨0, Nat.zero_le _, rfl, Lib.hid (inS_nil x)⟩
  case round =>
    obtain ⟨k, hk, rfl, HN⟩ := hrel
    have i0 : (0 : Int) ≤ (k : Int) := Int.natCast_nonneg _
    by_cases hlt : k < n
    · have i1 : (k : Int) < (n : Int) := by omega
      have t1 : decide (k < n) = true := by simpa using hlt
      obtain ⟨b, off, rfl, hbl, c1, c2⟩ := H.out.at k hlt
      have SN := Lib.hid (inS_snoc l k (by rw [HL.out]; exact hlt) x)
      have SM : Hid ((l.getD k (0, 0)).1 ≤ x ∧ x ≤ (l.getD k (0, 0)).2 → inS l x) := Lib.hid (fun g => by
        have hk' : k < l.length := by rw [HL.out]; exact hlt
        have e : l.getD k (0, 0) = l[k] := by simp [List.getD, List.getElem?_eq_getElem hk']
        rw [e] at g
        exact ⟨_, List.getElem_mem hk', g.1, g.2⟩)
      generalize (l.getD k (0, 0)).1 = p at *
      generalize (l.getD k (0, 0)).2 = q at *
      by_cases g1 : p ≤ x
      · by_cases g2 : x ≤ q
        · have HH : Hid (hasB l x = true) := Lib.hid (by unfold hasB; simpa using SM.out ⟨g1, g2⟩)
          go_wp2_with fail
          go_ret
          exact ⟨by rw [HH.out]; rfl, rfl⟩
        · go_wp2_with fail
          exact ⟨⟨k + 1, by omega, by go_num, Lib.hid (by rw [SN.out]; rintro (g | g); exact HN.out g; exact g2 g.2)⟩, by simp [intOf]; omega⟩
      · go_wp2_with fail
        exact ⟨⟨k + 1, by omega, by go_num, Lib.hid (by rw [SN.out]; rintro (g | g); exact HN.out g; exact g1 g.1)⟩, by simp [intOf]; omega⟩
    · have e : l.take k = l := List.take_of_length_le (by rw [HL.out]; omega)
      have HH : Hid (hasB l x = false) := Lib.hid (by unfold hasB; rw [← e]; simpa using HN.out)
      clear e
      go_wp2_with fail
      go_ret
      exact ⟨by rw [HH.out]; rfl, rfl⟩

set_option maxHeartbeats 1000000 in
theorem rkey_any {w : World} {v : Value} {k0 : Nat} {ss : List (List (Int × Int))} {n : Int} (h : ReadsL w v k0 ss) (hk0 : k0 ≤ 13) :
    Calls Try.prog 30 #[v, .int .i64 n] w fun e w' => e = .returned (.int .i64 (refN (keyL ss n) : Nat)) ∧ w = w' := by
  obtain ⟨a, cap, rfl, -, -, hl⟩ := h.form
  have H := Lib.hid h; have HL := Lib.hid hl; clear h hl
  go_enter Try.func30, Try.ntmps30
  go_wp2_with fail
  go_loop [5, 6] (fun s i => ∃ (k B : Nat), k ≤ k0 ∧ i = .int .i64 k ∧ s = .int .i64 B ∧ Hid (B = refN (keyL (ss.take k) n))) (fun _ i => k0 - (intOf i).toNat)
  case atStart => exact ⟨0, 0, Nat.zero_le _, rfl, rfl, Lib.hid rfl⟩
  case round =>
    obtain ⟨k, B, hk, rfl, rfl, HS⟩ := hrel
    have i0 : (0 : Int) ≤ (k : Int) := Int.natCast_nonneg _
    by_cases hlt : k < k0
    · have i1 : (k : Int) < (k0 : Int) := by omega
      have t1 : decide (k < k0) = true := by simpa using hlt
      obtain ⟨b, off, u, rfl, c1, hu⟩ := H.out.at k hlt
      have SN := Lib.hid (keyL_snoc ss n k (by rw [HL.out]; exact hlt))
      have hlk : (keyL (ss.take k) n).length = k := by rw [keyL_len, List.length_take, HL.out]; omega
      have hB := refN_lt (keyL (ss.take k) n)
      rw [← HS.out, hlk] at hB
      have hp := pow_le k (by omega)
      have SB := Lib.hid (refN_snoc (keyL (ss.take k) n) (hasB (ss.getD k []) n))
      rw [← HS.out] at SB
      generalize ss.getD k [] = l at *
      have hH := rhas_any (x := n) hu
      generalize hasB l n = bb at *
      have HH := Lib.hid hH; clear hH hlk hu
      have hB9 : B < 8192 := by omega
      clear hB hp
      have B0 : (0 : Int) ≤ (B : Int) := Int.natCast_nonneg _
      have B1 : (B : Int) < 8192 := by omega
      go_wp2_with fail
      refine HH.out.mono ?_
      rintro e w2 ⟨rfl, rfl⟩
      cases bb
      · go_wp2_with fail
        exact ⟨⟨k + 1, 2 * B, by omega, by go_num, by go_num, Lib.hid (by rw [SN.out, SB.out]; simp)⟩, by simp [intOf]; omega⟩
      · go_wp2_with fail
        exact ⟨⟨k + 1, 2 * B + 1, by omega, by go_num, by go_num, Lib.hid (by rw [SN.out, SB.out]; simp)⟩, by simp [intOf]; omega⟩
    · have e : ss.take k = ss := List.take_of_length_le (by rw [HL.out]; omega)
      have HE := Lib.hid e; clear e
      go_wp2_with fail
      go_ret
      exact ⟨by rw [HS.out, HE.out]; rfl, rfl⟩

set_option maxHeartbeats 1000000 in
theorem rlet_any {w : World} {v u : Value} {m k : Nat} {c l : List Int} {x : Int} (h : ReadsI w v m c) (h' : ReadsI w u m l) (hm : m ≤ 1000000000) (hkm : k < m) (h1 : ∀ t, t < k + 1 → c.getD t 0 ≤ x) (h2 : ∀ t, k + 1 ≤ t → t < m → x < c.getD t 0) :
    Calls Try.prog 22 #[v, u, .int .i64 x] w fun e w' => e = .returned (.int .i64 (l.getD k 0)) ∧ w = w' := by
  obtain ⟨a, cap, rfl, -, -, -⟩ := h.form
  obtain ⟨a', cap', rfl, -, -, -⟩ := h'.form
  obtain ⟨b', off', rfl, hbl', d1⟩ := h'.at k hkm
  have H := Lib.hid h; have H1 := Lib.hid h1; have H2 := Lib.hid h2
  clear h h' h1 h2
  generalize l.getD k 0 = z at *
  go_enter Try.func22, Try.ntmps22
  go_wp2_with fail
  go_loop [7] (fun i => ∃ (j : Nat), j ≤ k ∧ i = .int .i64 j) (fun i => k - (intOf i).toNat)
  case atStart => exact ⟨0, Nat.zero_le _, rfl⟩
  case round =>
    obtain ⟨j, hj, rfl⟩ := hrel
    have i0 : (0 : Int) ≤ (j : Int) := Int.natCast_nonneg _
    by_cases hlt : j < k
    · have i1 : (j : Int) + 1 < (m : Int) := by omega
      obtain ⟨b, off, rfl, hbl, c1⟩ := H.out.at (j + 1) (by omega)
      have hle := H1.out (j + 1) (by omega)
      generalize c.getD (j + 1) 0 = y at *
      have e1 : ((j : Int) + 1).toNat = j + 1 := by omega
      go_wp2_with fail
      exact ⟨⟨j + 1, by omega, by go_num⟩, by simp [intOf]; omega⟩
    · obtain rfl : j = k := by omega
      have j1 : (j : Int) < (m : Int) := by omega
      by_cases hlast : j + 1 < m
      · have i1 : (j : Int) + 1 < (m : Int) := by omega
        obtain ⟨b, off, rfl, hbl, c1⟩ := H.out.at (j + 1) (by omega)
        have hle := H2.out (j + 1) (by omega) hlast
        generalize c.getD (j + 1) 0 = y at *
        have e1 : ((j : Int) + 1).toNat = j + 1 := by omega
        have hno : ¬ y ≤ x := by omega
        go_wp2_with fail
        go_ret
        exact ⟨rfl, rfl⟩
      · have i1 : ¬ ((j : Int) + 1 < (m : Int)) := by omega
        go_wp2_with fail
        go_ret
        exact ⟨rfl, rfl⟩

set_option maxHeartbeats 1000000 in
theorem rcount_any {w : World} {v : Value} {m : Nat} {ks : List (List Bool)} (h : ReadsI w v m ((lets ks).map fun (i : Nat) => (i : Int))) (hm : m ≤ 1000000000) :
    Calls Try.prog 17 #[v] w fun e w' => e = .returned (.int .i64 ((firsts ks).length : Nat)) ∧ w = w' := by
  obtain ⟨a, cap, rfl, -, -, hl⟩ := h.form
  have hks : ks.length = m := by simpa [lets] using hl
  have H := Lib.hid h; have HK := Lib.hid hks; clear h hl hks
  go_enter Try.func17, Try.ntmps17
  go_wp2_with fail
  go_loop [3, 4] (fun s i => ∃ (k n : Nat), k ≤ m ∧ n ≤ k ∧ i = .int .i64 k ∧ s = .int .i64 n ∧ Hid (n = cnt ks k)) (fun _ i => m - (intOf i).toNat)
  case atStart => exact ⟨0, 0, Nat.zero_le _, Nat.le_refl _, rfl, rfl, Lib.hid rfl⟩
  case round =>
    obtain ⟨k, n, hk, hnk, rfl, rfl, HN⟩ := hrel
    have i0 : (0 : Int) ≤ (k : Int) := Int.natCast_nonneg _
    by_cases hlt : k < m
    · have i1 : (k : Int) < (m : Int) := by omega
      have t1 : decide (k < m) = true := by simpa using hlt
      obtain ⟨b, off, rfl, hbl, c1⟩ := H.out.at k hlt
      have hst := cnt_step ks k (by rw [HK.out]; exact hlt)
      have e : ((lets ks).map fun (i : Nat) => (i : Int)).getD k 0 = (((lets ks).getD k 0 : Nat) : Int) := by
        have hkl : k < (lets ks).length := by rw [lets_len, HK.out]; exact hlt
        simp [List.getD, List.getElem?_eq_getElem hkl]
      rw [e] at c1; clear e
      rw [← HN.out] at hst
      generalize (lets ks).getD k 0 = y at *
      have HST : Hid (max (n : Int) ((y : Int) + 1) = ((cnt ks (k + 1) : Nat) : Int) ∧ cnt ks (k + 1) ≤ k + 1) := Lib.hid (by omega)
      have y0 : (0 : Int) ≤ (y : Int) := Int.natCast_nonneg _
      have y1 : (y : Int) ≤ 1000000000 := by omega
      clear hst
      go_wp2_with fail
      refine ⟨⟨k + 1, cnt ks (k + 1), by omega, HST.out.2, by go_num, ?_, Lib.hid rfl⟩, by simp [intOf]; omega⟩
      rw [← HST.out.1]
    · have HE := Lib.hid (cnt_all ks k (by rw [HK.out]; omega))
      go_wp2_with fail
      go_ret
      exact ⟨by rw [← HE.out, ← HN.out]; rfl, rfl⟩

end Go.Proofs.Ythbnhdocjnhhlaa
