/- The law text's within; small machines. Rows that a call left, read as a machine's; the example's facts. -/
import Derived.Test.YtjkcglgkdclidaaVMiniFf
set_option linter.unusedVariables false
set_option linter.unusedSimpArgs false
namespace Go.Proofs.Ytjkcglgkdclidaa
open Go Go.RowKit Go.Proofs
theorem within_any (x n : Int) (hn : 0 < n) (hn2 : n <= 1099511627776) (w : World) :
  Calls Try.prog 48 #[.int .i64 x, .int .i64 n] w fun e w' => e = .returned (.int .i64 (x % n)) /\ w = w' := by
  have h1 := Int.tmod_lt_of_pos x hn
  have h2 : -n < x.tmod n := by
   have := Int.tmod_lt_of_pos (-x) hn
   rw [Int.neg_tmod] at this
   omega
  have hE : x % n = if x.tmod n < 0 then x.tmod n + n else x.tmod n := by
   have h3 := Int.emod_eq_tmod (a := x) (b := n)
   have hd : (n.natAbs : Int) = n := Int.natAbs_of_nonneg (Int.le_of_lt hn)
   have h4 := Int.emod_nonneg x (Int.ne_of_gt hn)
   have h5 := Int.emod_lt_of_pos x hn
   have e1 := Int.emod_add_mul_ediv x n
   have e2 := Int.tmod_add_mul_tdiv x n
   split
   ·rename_i hlt
    have : (x % n - (x.tmod n + n)) = n * (x.tdiv n - x / n - 1) := by
     rw [Int.mul_sub, Int.mul_sub, Int.mul_one]; omega
    have hq : x.tdiv n - x / n - 1 = 0 := by
     apply Classical.byContradiction
     intro hne
     rcases Int.lt_or_gt_of_ne hne with h | h
     ·have : n * (x.tdiv n - x / n - 1) <= n * (-1) := Int.mul_le_mul_of_nonneg_left (by omega) (by omega)
      omega
     ·have : n * 1 <= n * (x.tdiv n - x / n - 1) := Int.mul_le_mul_of_nonneg_left (by omega) (by omega)
      omega
    rw [hq] at this
    omega
   ·rename_i hge
    have : (x % n - x.tmod n) = n * (x.tdiv n - x / n) := by
     rw [Int.mul_sub]; omega
    have hq : x.tdiv n - x / n = 0 := by
     apply Classical.byContradiction
     intro hne
     rcases Int.lt_or_gt_of_ne hne with h | h
     ·have : n * (x.tdiv n - x / n) <= n * (-1) := Int.mul_le_mul_of_nonneg_left (by omega) (by omega)
      omega
     ·have : n * 1 <= n * (x.tdiv n - x / n) := Int.mul_le_mul_of_nonneg_left (by omega) (by omega)
      omega
    rw [hq] at this
    omega
  have E := Lib.hid hE
  have hne : ¬ n = 0 := by omega
  clear hE
  go_enter Try.func48, Try.ntmps48
  by_cases hlt : x.tmod n < 0
  ·go_wp2_with fail
   go_ret
   exact ⟨by rw [E.out, if_pos hlt]; rfl, rfl⟩
  ·go_wp2_with fail
   go_ret
   exact ⟨by rw [E.out, if_neg (by omega)]; rfl, rfl⟩
theorem AlikeN.congr {α β : Type} {T : List (List Nat)} {k : Nat} {g : Nat -> α} {g' : Nat -> β} (hT : RectN T k) (h : ∀ x y, x < T.length -> y < T.length -> (g x = g y ↔ g' x = g' y)) {x y : Nat} (hx : x < T.length) (hy : y < T.length) : AlikeN T k g x y ↔ AlikeN T k g' x y :=
 ⟨fun hh w hw => (h _ _ (runN_lt hT w x hx hw) (runN_lt hT w y hy hw)).1 (hh w hw), fun hh w hw => (h _ _ (runN_lt hT w x hx hw) (runN_lt hT w y hy hw)).2 (hh w hw)⟩
theorem alike_key {T : List (List Nat)} {k n q : Nat} {E : List (List V3)} (hT : RectN T k) (hl : T.length = n) (hq : ∀ i, i < n -> (E.getD i []).length = q) (hin : ∀ i, i < n -> ∀ u ∈ E.getD i [], ∀ c, In64 (atV u c)) {x y : Nat} (hx : x < n) (hy : y < n) :
  AlikeN T k (fun x => strOfNums (keyZ (E.getD x []))) x y ↔ AlikeN T k (fun x => E.getD x []) x y :=
  AlikeN.congr hT (fun a b ha hb => key_iff (hin a (by omega)) (hin b (by omega)) (by rw [hq a (by omega), hq b (by omega)])) (by omega) (by omega)
def T1 : List (List Nat) := [[0]]
def T2 : List (List Nat) := [[1], [0]]
theorem rect1 : RectN T1 1 := ⟨by decide, fun s hs => by
 obtain rfl : s = 0 := by have : s < 1 := hs; omega
 rfl, fun s a hs ha => by
 obtain rfl : s = 0 := by have : s < 1 := hs; omega
 obtain rfl : a = 0 := by omega
 decide⟩
theorem rect2 : RectN T2 1 := ⟨by decide, fun s hs => by
 rcases (show s = 0 \/ s = 1 by have : s < 2 := hs; omega) with rfl | rfl <;> rfl, fun s a hs ha => by
 obtain rfl : a = 0 := by omega
 rcases (show s = 0 \/ s = 1 by have : s < 2 := hs; omega) with rfl | rfl <;> decide⟩
theorem rep1 (f : Nat -> Nat) : repN T1 (EF f) = [0] := by simp [repN, T1, bfsN, visitN, addN, EF]
theorem name1 (f : Nat -> Nat) : nameN T1 (EF f) 0 = 0 := by
 unfold nameN
 rw [rep1, if_pos (by decide)]
 simp [ixN, EF]
theorem rep2 (f : Nat -> Nat) (h : f 0 = f 1) : repN T2 (EF f) = [0] := by simp [repN, T2, bfsN, visitN, addN, EF, h]
theorem name2 (f : Nat -> Nat) (h : f 0 = f 1) {s : Nat} (hs : s < 2) : nameN T2 (EF f) s = 0 := by
 unfold nameN
 rcases (show s = 0 \/ s = 1 by omega) with rfl | rfl
 ·rw [rep2 f h, if_pos (by decide)]
  simp [ixN, EF]
 ·rw [rep2 f h, if_pos (by decide)]
  simp [ixN, EF, h]
end Go.Proofs.Ytjkcglgkdclidaa
namespace Go.Proofs.Ytjkcglgkdclidaa
open Go Go.RowKit Go.Proofs
theorem readsI_blk {w : World} {b : Nat} {l : List Int} (h : Blk w b 3 (l.map (Value.int .i64)).toArray) (hl : l.length <= 1000) : ReadsI w (.slice (some ⟨b, 0, none⟩) l.length l.length) l.length l := by
 refine ⟨rfl, some ⟨b, 0, none⟩, l.length, rfl, Nat.le_refl _, by unfold maxLen; omega, (fun e => by cases e), fun i hi => ⟨b, 0, rfl, fun j hj => ?_⟩⟩
 rw [Nat.zero_add, h.cell]
 simp [List.getElem?_eq_getElem hj, List.getD]
theorem readsV_blk {w : World} {b : Nat} (u : V3) (h : Blk w b 45 #[.int .i64 u.1, .int .i64 u.2.1, .int .i64 u.2.2]) : ReadsE encV 3 w (.slice (some ⟨b, 0, none⟩) 1 1) 1 [u] := by
 refine ⟨rfl, some ⟨b, 0, none⟩, 1, rfl, Nat.le_refl _, by unfold maxLen; omega, (fun e => by cases e), fun i x hi => ⟨b, 0, rfl, fun j v hj => ?_⟩⟩
 cases i with
 | succ i => simp at hi
 | zero =>
   have : x = u := by simpa using hi.symm
   subst this
   have e : 0 + 0 * 3 + j = j := by omega
   rw [e, h.cell]
   simpa [encV] using hj
theorem OwnLL.nextR {w : World} {B k : Nat} {v : Value} {xss : List (Nat × List Value)} {T : List (List Nat)} (h : OwnLL w B 22 3 1 v k xss) (hk : T.length = k) (hx : ∀ i, i < k -> xss.getD i (0, []) = ((T.getD i []).length, (intsN (T.getD i [])).map (Value.int .i64))) : NextR w v T := by
 subst hk
 obtain ⟨h1, vals, h2, h3⟩ := h
 have hl : vals.length = T.length := by have := h2.1; omega
 rcases h2.2 with ⟨e1, e0⟩ | ⟨g, cap, cur, e, _, _, q1, q2, _⟩
 ·have : T = [] := List.eq_nil_of_length_eq_zero e0
  subst this; subst e1
  exact ⟨none, 0, rfl, Nat.le_refl _, Nat.zero_le _, fun _ => rfl, fun i hi => absurd hi (by simp)⟩
 ·subst e
  refine ⟨_, cap, rfl, q1, q2, (fun e => by cases e), fun i hi => ⟨g, 0, vals.getD i undef, rfl, ?_, ?_⟩⟩
  ·rw [Nat.zero_add, World.ownsRow.cellAt h2 i (by omega)]
   simp [List.getD, List.getElem?_eq_getElem (show i < vals.length by omega)]
  ·have h4 := (h3 i hi).1
   rw [hx i hi] at h4
   exact Own.readsI h4
theorem OwnLL.emitR {w : World} {B k : Nat} {v : Value} {xss : List (Nat × List Value)} {E : List (List V3)} (h : OwnLL w B 46 45 3 v k xss) (hk : E.length = k) (hx : ∀ i, i < k -> xss.getD i (0, []) = ((E.getD i []).length, (E.getD i []).flatMap encV)) : EmitR w v E := by
 subst hk
 obtain ⟨h1, vals, h2, h3⟩ := h
 have hl : vals.length = E.length := by have := h2.1; omega
 rcases h2.2 with ⟨e1, e0⟩ | ⟨g, cap, cur, e, _, _, q1, q2, _⟩
 ·have : E = [] := List.eq_nil_of_length_eq_zero e0
  subst this; subst e1
  exact ⟨none, 0, rfl, Nat.le_refl _, Nat.zero_le _, fun _ => rfl, fun i hi => absurd hi (by simp)⟩
 ·subst e
  refine ⟨_, cap, rfl, q1, q2, (fun e => by cases e), fun i hi => ⟨g, 0, vals.getD i undef, rfl, ?_, ?_⟩⟩
  ·rw [Nat.zero_add, World.ownsRow.cellAt h2 i (by omega)]
   simp [List.getD, List.getElem?_eq_getElem (show i < vals.length by omega)]
  ·have h4 := (h3 i hi).1
   rw [hx i hi] at h4
   exact OwnE.reads (enc := encV) h4 encV_len (by decide)
def E2 : List (List V3) := [[(1, 2, 3)], [(1, 2, 3)]]
theorem E2_at {i : Nat} (h : i < 2) : E2.getD i [] = [(1, 2, 3)] := by
 rcases (show i = 0 \/ i = 1 by omega) with rfl | rfl <;> rfl
theorem alike2 : AlikeN T2 1 (fun x => strOfNums (keyZ (E2.getD x []))) 0 1 := fun w hw => by
 have h0 := runN_lt rect2 w 0 (by decide) hw
 have h1 := runN_lt rect2 w 1 (by decide) hw
 show strOfNums (keyZ (E2.getD _ [])) = strOfNums (keyZ (E2.getD _ []))
 rw [E2_at h0, E2_at h1]
end Go.Proofs.Ytjkcglgkdclidaa
