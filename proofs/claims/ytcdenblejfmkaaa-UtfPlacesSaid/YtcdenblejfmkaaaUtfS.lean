/- Contract of utf.Decode: it tells what the document says, whatever the bytes. -/
import Derived.Test.YtcdenblejfmkaaaUtfR
import Derived.Lib.OthersKept
namespace Go.Proofs.Ytcdenblejfmkaaa
open Go.RowKit Go.Proofs

theorem Own.iterAt {w : World} {B n k p : Nat} {v : Value} {l : List Int} {s : ByteArray} (h : Own w B v n l) (hk : w.heap[k]? = some (.stringIter s p)) (p' : Nat) : Own (w.iterAt k s p') B v n l := by
  have hne := h.ne_iter hk
  obtain ⟨h1, h2⟩ := h
  refine ⟨h1, ?_⟩
  rcases h2 with h2 | ⟨g, cap, cur, rfl, hg, hh, r⟩
  · exact .inl h2
  · refine .inr ⟨g, cap, cur, rfl, hg, ?_, r⟩
    rw [Lib.iterAt_other w k g s p' (fun e => hne (by rw [e]; rfl))]
    exact hh

/-- What front counts is what the document says, where the row is told as FFFD. -/
theorem fr_nx (l : List UInt8) (hl : l ≠ []) (h : (nx l).1 = 65533) : fr l = (nx l).2 := by
  have hp := List.length_pos_iff.2 hl
  have h0 := bt_lt l 0; have h1 := bt_lt l 1; have h2 := bt_lt l 2; have h3 := bt_lt l 3
  have hn := nx_cases l
  have hs : sec l ↔ 1 < l.length ∧ inB (loOf (bt l 0)) (hiOf (bt l 0)) (bt l 1) = true := by rw [inB_iff]; rfl
  have e2 : con l 2 ↔ 2 < l.length ∧ inB 128 191 (bt l 2) = true := by rw [inB_iff]; rfl
  have e3 : con l 3 ↔ 3 < l.length ∧ inB 128 191 (bt l 3) = true := by rw [inB_iff]; rfl
  have hsl := sec_cases l
  have hb : 194 ≤ bt l 0 → bt l 0 ≤ 244 → spLo (bt l 0) = loOf (bt l 0) ∧ spHi (bt l 0) = hiOf (bt l 0) := fun a b => by
    unfold spLo spHi
    rw [if_neg (by omega), if_neg (by omega)]
    exact ⟨rfl, rfl⟩
  have hls : lsOf (bt l 0) = if bt l 0 < 194 then 1 else if bt l 0 ≤ 223 then 2 else if bt l 0 ≤ 239 then 3 else if bt l 0 ≤ 244 then 4 else 1 := rfl
  have hl2 : 194 ≤ bt l 0 → bt l 0 ≤ 244 → ¬ lsOf (bt l 0) < 2 := fun a b => by rw [hls]; (repeat' split) <;> omega
  unfold fr
  rcases hn with ⟨g, e⟩ | ⟨g, e⟩ | ⟨g1, g2, hS, e⟩ | ⟨g1, g2, hS, e⟩ | ⟨g1, g2, hS, q2, e⟩ | ⟨g1, g2, hS, q2, e⟩ | ⟨g1, g2, hS, q2, q3, e⟩ | ⟨g1, g2, hS, q2, q3, e⟩ <;> rw [e] at h ⊢
  · simp only at h; omega
  · rw [if_pos (by rw [hls]; (repeat' split) <;> omega)]
  · rw [(hb (by omega) (by omega)).1, (hb (by omega) (by omega)).2, if_neg (hl2 (by omega) (by omega)), if_pos (fun hh => hS (hs.2 hh))]
  · simp only at h
    have := hsl.1 hS
    exfalso; omega
  · rw [(hb (by omega) (by omega)).1, (hb (by omega) (by omega)).2, if_neg (hl2 (by omega) (by omega)), if_neg (fun hh => hh (hs.1 hS))]
    split
    · rfl
    · rw [if_pos (fun hh => q2 (e2.2 hh))]
  · rw [(hb (by omega) (by omega)).1, (hb (by omega) (by omega)).2, if_neg (hl2 (by omega) (by omega)), if_neg (fun hh => hh (hs.1 hS)), if_neg (by rw [hls]; (repeat' split) <;> omega), if_neg (fun hh => hh (e2.1 q2)), if_pos (by rw [hls]; (repeat' split) <;> omega)]
  · rw [(hb (by omega) (by omega)).1, (hb (by omega) (by omega)).2, if_neg (hl2 (by omega) (by omega)), if_neg (fun hh => hh (hs.1 hS)), if_neg (by rw [hls]; (repeat' split) <;> omega), if_neg (fun hh => hh (e2.1 q2)), if_neg (by rw [hls]; (repeat' split) <;> omega), if_pos (fun hh => q3 (e3.2 hh))]
  · simp only at h
    have := hsl.1 hS
    have := (con_iff l 2).1 q2
    exfalso; omega

end Go.Proofs.Ytcdenblejfmkaaa
