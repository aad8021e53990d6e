/- Contracts of trop.Min, the document's Least and Ints at slices that the law text has gathered itself. -/
import Derived.Test.YtemofnmfaimliaaDoorTropH
import Derived.Test.YtemofnmfaimliaaDoorApart
namespace Go.Proofs.YtemofnmfaimliaaDoor
open Go.RowKit

theorem info_int : (Tryd.prog.info? 3).map (fun i => (i.zero, i.size, i.bytes)) = some (some (.int .i64 0), 1, 8) := by kernel_rfl

theorem own_cells {w : World} {base n : Nat} {v : Value} {l : List Int} (h : w.ownsRow base 3 1 v n (l.map (Value.int .i64))) :
    l.length = n ∧ ((v = .slice none 0 0 ∧ l = []) ∨ ∃ g cap, v = .slice (some ⟨g, 0, none⟩) n cap ∧ ∀ i, i < n → w.cell? ⟨g, 0 + i, none⟩ = some (.int .i64 (l.getD i 0))) := by
  have hlen : l.length = n := by simpa using h.1
  refine ⟨hlen, ?_⟩
  have h0 := h
  rcases h.2 with ⟨rfl, rfl⟩ | ⟨g, cap, cur, rfl, _⟩
  · exact .inl ⟨rfl, List.eq_nil_of_length_eq_zero hlen⟩
  · refine .inr ⟨g, cap, rfl, fun i hi => ?_⟩
    rw [Nat.zero_add, World.ownsRow.cellAt h0 i (by omega)]
    simp [List.getD, List.getElem?_eq_getElem (show i < l.length by omega)]

theorem min_own {w : World} {base n : Nat} {v : Value} {l : List Int} (h : w.ownsRow base 3 1 v n (l.map (Value.int .i64))) (hn : n ≤ 1000) :
    Calls Tryd.prog 14 #[v] w fun e w' => e = .returned (.int .i64 (least l)) ∧ w = w' := by
  obtain ⟨hl, ⟨rfl, rfl⟩ | ⟨g, cap, rfl, hc⟩⟩ := own_cells h
  · exact min_nil w
  · exact min_any l n cap g 0 w hl (by omega) hc

set_option maxHeartbeats 400000 in
theorem refleast_any (l : List Int) (len cap : Nat) (b off : Nat) (w : World) (hl : l.length = len) (hm : len ≤ 9223372036854775806)
    (hc : ∀ i, i < len → w.cell? ⟨b, off + i, none⟩ = some (.int .i64 (l.getD i 0))) :
    Calls Tryd.prog 15 #[.slice (some ⟨b, off, none⟩) len cap] w fun e w' => e = .returned (.int .i64 (least l)) ∧ w = w' := by
  have HL := Lib.hid hl; clear hl
  have HC := Lib.hid hc; clear hc
  go_enter Tryd.func15, Tryd.ntmps15
  go_wp2_with fail
  go_loop [3, 4] (fun m i => ∃ k : Nat, k ≤ len ∧ i = .int .i64 k ∧ m = .int .i64 (least (l.take k))) (fun _ i => len - (intOf i).toNat)
  case atStart => exact ⟨0, Nat.zero_le _, rfl, rfl⟩
  case round =>
    obtain ⟨k, hk, rfl, rfl⟩ := hrel
    by_cases hlt : k < len
    · have hcell := HC.out k hlt
      have hs := least_snoc (l.take k) (l.getD k 0)
      rw [← take_snoc l k (by rw [HL.out]; exact hlt)] at hs
      have HS := Lib.hid hs; clear hs
      generalize hm : least (l.take k) = m at *
      generalize hx : l.getD k 0 = x at *
      have HM := Lib.hid hm; clear hm
      have HX := Lib.hid hx; clear hx
      by_cases hxm : x < m
      · go_wp2
        refine ⟨⟨k + 1, by omega, by go_num, by rw [HS.out, if_pos hxm, show min m x = x by omega]⟩, by simp [intOf]; omega⟩
      · go_wp2
        refine ⟨⟨k + 1, by omega, by go_num, by rw [HS.out, if_neg hxm, show min m x = m by omega]⟩, by simp [intOf]; omega⟩
    · go_wp2
      go_ret
      exact ⟨ret_int (by rw [List.take_of_length_le (by rw [HL.out]; omega)]), rfl⟩

theorem refleast_nil (w : World) :
    Calls Tryd.prog 15 #[.slice none 0 0] w fun e w' => e = .returned (.int .i64 1152921504606846976) ∧ w = w' := by
  go_enter Tryd.func15, Tryd.ntmps15
  go_wp2_with fail
  refine wp_loop_rounds 1 ?_; rw [rounds_succ]
  go_wp2
  go_ret
  exact ⟨rfl, rfl⟩

theorem refleast_own {w : World} {base n : Nat} {v : Value} {l : List Int} (h : w.ownsRow base 3 1 v n (l.map (Value.int .i64))) (hn : n ≤ 1000) :
    Calls Tryd.prog 15 #[v] w fun e w' => e = .returned (.int .i64 (least l)) ∧ w = w' := by
  obtain ⟨hl, ⟨rfl, rfl⟩ | ⟨g, cap, rfl, hc⟩⟩ := own_cells h
  · exact refleast_nil w
  · exact refleast_any l n cap g 0 w hl (by omega) hc

set_option maxHeartbeats 400000 in
theorem ints_same_any (l : List Int) (len cap cap' : Nat) (b off b' off' : Nat) (w : World) (hm : len ≤ 9223372036854775806)
    (hc : ∀ i, i < len → w.cell? ⟨b, off + i, none⟩ = some (.int .i64 (l.getD i 0))) (hc' : ∀ i, i < len → w.cell? ⟨b', off' + i, none⟩ = some (.int .i64 (l.getD i 0))) :
    Calls Tryd.prog 23 #[.slice (some ⟨b, off, none⟩) len cap, .slice (some ⟨b', off', none⟩) len cap'] w fun e w' => e = .returned (.bool true) ∧ Below w.heap.size w w' := by
  have HC := Lib.hid hc; clear hc
  have HC' := Lib.hid hc'; clear hc'
  go_enter Tryd.func23, Tryd.ntmps23
  go_wp2_with fail
  go_loopw [5] (fun i wr => ∃ k : Nat, k ≤ len ∧ i = .int .i64 k ∧ Below w.heap.size w wr ∧ (∀ i, i < len → wr.cell? ⟨b, off + i, none⟩ = some (.int .i64 (l.getD i 0))) ∧ (∀ i, i < len → wr.cell? ⟨b', off' + i, none⟩ = some (.int .i64 (l.getD i 0)))) (fun i _ => len - (intOf i).toNat)
  case atStart => exact ⟨0, Nat.zero_le _, rfl, Below.refl _ _, HC.out, HC'.out⟩
  case round =>
    obtain ⟨k, hk, rfl, hb, h1, h2⟩ := hrel
    by_cases hlt : k < len
    · have c1 := h1 k hlt
      have c2 := h2 k hlt
      have H1 := Lib.hid h1; have H2 := Lib.hid h2; have HB := Lib.hid hb; clear h1 h2 hb
      have i0 : (0 : Int) ≤ (k : Int) := Int.natCast_nonneg _
      have i1 : (k : Int) < (len : Int) := by omega
      generalize l.getD k 0 = x at *
      go_wp2_with fail
      go_quiet (fail)
      go_wp2_with fail
      refine ⟨⟨k + 1, by omega, by go_num, ?_, ?_, ?_⟩, by simp [intOf]; omega⟩
      · exact HB.out.trans ⟨rfl, rfl, rfl, Nat.le_refl _, fun _ _ => rfl⟩
      · intro i hi; exact H1.out i hi
      · intro i hi; exact H2.out i hi
    · have HB := Lib.hid hb; clear h1 h2 hb
      go_wp2
      go_ret
      exact ⟨rfl, HB.out⟩

theorem ints_nil (w : World) :
    Calls Tryd.prog 23 #[.slice none 0 0, .slice none 0 0] w fun e w' => e = .returned (.bool true) ∧ Below w.heap.size w w' := by
  go_enter Tryd.func23, Tryd.ntmps23
  go_wp2_with fail
  refine wp_loop_rounds 1 ?_; rw [rounds_succ]
  go_wp2
  go_ret
  exact ⟨rfl, Below.refl _ _⟩

theorem ints_empty (w : World) (a : Option Addr) (c : Nat) :
    Calls Tryd.prog 23 #[.slice none 0 0, .slice a 0 c] w fun e w' => e = .returned (.bool true) ∧ Below w.heap.size w w' := by
  go_enter Tryd.func23, Tryd.ntmps23
  go_wp2_with fail
  refine wp_loop_rounds 1 ?_; rw [rounds_succ]
  go_wp2
  go_ret
  exact ⟨rfl, Below.refl _ _⟩
theorem ints_empty' (w : World) (a : Option Addr) (c : Nat) :
    Calls Tryd.prog 23 #[.slice a 0 c, .slice none 0 0] w fun e w' => e = .returned (.bool true) ∧ Below w.heap.size w w' := by
  go_enter Tryd.func23, Tryd.ntmps23
  go_wp2_with fail
  refine wp_loop_rounds 1 ?_; rw [rounds_succ]
  go_wp2
  go_ret
  exact ⟨rfl, Below.refl _ _⟩

theorem ints_same {w : World} {base n : Nat} {v u : Value} {l : List Int} (h : w.ownsRow base 3 1 v n (l.map (Value.int .i64))) (h' : w.ownsRow base 3 1 u n (l.map (Value.int .i64))) (hn : n ≤ 1000) :
    Calls Tryd.prog 23 #[v, u] w fun e w' => e = .returned (.bool true) ∧ Below w.heap.size w w' := by
  obtain ⟨hl, ⟨rfl, rfl⟩ | ⟨g, cap, rfl, hc⟩⟩ := own_cells h
  · obtain ⟨hl', ⟨rfl, _⟩ | ⟨g', cap', rfl, hc'⟩⟩ := own_cells h'
    · exact ints_nil w
    · simp only [List.length_nil] at hl
      subst hl
      exact ints_empty w _ _
  · obtain ⟨hl', ⟨rfl, rfl⟩ | ⟨g', cap', rfl, hc'⟩⟩ := own_cells h'
    · simp only [List.length_nil] at hl
      subst hl
      exact ints_empty' w _ _
    · exact ints_same_any l n cap cap' g 0 g' 0 w (by omega) hc hc'

end Go.Proofs.YtemofnmfaimliaaDoor
