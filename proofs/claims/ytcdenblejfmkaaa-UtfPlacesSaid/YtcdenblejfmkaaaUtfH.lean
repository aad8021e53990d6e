/- The chapter's own example, as the law texts ask it: known() returns true. -/
import Derived.Test.YtcdenblejfmkaaaUtfT
import Derived.Test.YtcdenblejfmkaaaUtfG
namespace Go.Proofs.Ytcdenblejfmkaaa
open Go.RowKit Go.Proofs

theorem Own.slice {w : World} {B n : Nat} {v : Value} {l : List Int} (h : Own w B v n l) (hn : 0 < n) :
    ∃ g cap, v = .slice (some ⟨g, 0, none⟩) n cap ∧ B ≤ g ∧ g < w.heap.size ∧ n ≤ cap ∧ ∀ i, i < n → w.cell? ⟨g, i, none⟩ = some (.int .i64 (l.getD i 0)) := by
  rcases h.form with ⟨_, rfl, _⟩ | ⟨g, cap, hv, h1, h2, h3, h4⟩
  · omega
  · exact ⟨g, cap, hv, h1, h2, h3, fun i hi => by have := h4 i hi; rwa [Nat.zero_add] at this⟩

theorem encode_one (x : Int) (cap b : Nat) (w : World) (hb : b < w.heap.size) (hc : w.cell? ⟨b, 0, none⟩ = some (.int .i64 x)) :
    Calls Try.prog 18 #[.slice (some ⟨b, 0, none⟩) 1 cap] w fun e w' => e = .returned (.string ⟨(enc [x]).toArray⟩) ∧ Below w.heap.size w w' :=
  encode_any [x] 1 cap b 0 w rfl (by omega) hb (fun i hi => by cases i with | zero => exact hc | succ j => omega)

set_option maxHeartbeats 1000000 in
theorem known_any (w : World) :
    Calls Try.prog 12 #[] w fun e w' => e = .returned (.bool true) ∧ Below w.heap.size w w' := by
  have e1 : scs [226, 130, 65] = [65533, 65] := by decide +kernel
  have e2 : ofs 0 [226, 130, 65] = [0, 2] := by decide +kernel
  have e3 : enc [8364] = [226, 130, 172] := by decide +kernel
  have e4 : scB 0 = true := by decide +kernel
  have e5 : scB 55296 = false := by decide +kernel
  have E1 := Lib.hid e1; have E2 := Lib.hid e2; have E3 := Lib.hid e3; have E4 := Lib.hid e4; have E5 := Lib.hid e5
  clear e1 e2 e3 e4 e5
  go_enter Try.func12, Try.ntmps12
  go_wp2_with fail
  refine (decode_any ⟨#[226, 130, 65]⟩ _ (by decide)).mono ?_
  rintro e w1 ⟨v, u, rfl, hv, hu, hap, hb1⟩
  rw [show (⟨#[226, 130, 65]⟩ : ByteArray).data.toList = [226, 130, 65] from rfl, E1.out] at hv hu
  rw [E2.out] at hu
  obtain ⟨g1, c1, rfl, _, hg1, _, hc1⟩ := hv.slice (by simp)
  obtain ⟨g2, c2, rfl, _, hg2, _, hc2⟩ := hu.slice (by simp)
  have d0 : w1.cell? ⟨g1, 0, none⟩ = some (.int .i64 65533) := hc1 0 (by simp)
  have d1 : w1.cell? ⟨g1, 1, none⟩ = some (.int .i64 65) := hc1 1 (by simp)
  have d2 : w1.cell? ⟨g2, 1, none⟩ = some (.int .i64 2) := hc2 1 (by simp)
  have HB1 := Lib.hid hb1
  clear hv hu hap hc1 hc2 hb1
  go_wp2_with fail
  refine (encode_one 8364 1 w1.heap.size _ (by simp) (by simp [go_sem])).mono ?_
  rintro e w2 ⟨rfl, hb2⟩
  rw [E3.out]
  have HB2 := Lib.hid ((HB1.out.alloc HB1.out.size (.cells #[.int .i64 8364] 3)).trans (hb2.mono (by have := HB1.out.size; simp; omega)))
  clear hb2
  go_wp2_with fail
  refine (scalar_any 0 _).mono ?_; rintro e w' ⟨rfl, rfl⟩
  rw [E4.out]
  go_wp2_with fail
  refine (scalar_any 55296 _).mono ?_; rintro e w' ⟨rfl, rfl⟩
  rw [E5.out]
  go_wp2_with fail
  go_ret
  exact ⟨rfl, HB2.out⟩

end Go.Proofs.Ytcdenblejfmkaaa
