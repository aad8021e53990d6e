/- What a law's walk is told of a slice of integers that came in. What the laws of chapter 11 share: the arguments; the machine of those that stay, as it lies in memory. -/
import Derived.Test.YtacgakkcpmhgmaaProg
import Derived.WalkKit
import Derived.Test.YtacgakkcpmhgmaaVMiniLe
import Derived.Test.YtacgakkcpmhgmaaVMiniP
import Derived.Deep.QuietTactic
import Derived.BigQuiet
import Derived.Outline
set_option linter.unusedVariables false
set_option linter.unusedSimpArgs false
namespace Go.Proofs.Ytacgakkcpmhgmaa
open Go Go.RowKit
def IsRow (k : IntKind) (w : World) (a : Option Addr) (len cap : Nat) (zs : List Int) : Prop :=
 (a = none /\ len = 0 /\ cap = 0 /\ zs = []) \/
 ∃ x, a = some x /\ len <= cap /\ cap <= maxLen /\ zs.length = cap /\ (∀ i, i < zs.length -> w.cell? (x.add i) = some (.int k (zs.getD i 0))) /\ ∀ n ∈ zs, (Lit.int k n).wf = true
theorem IsRow.len_le {k : IntKind} {w : World} {a : Option Addr} {len cap : Nat} {zs : List Int} (h : IsRow k w a len cap zs) : len <= zs.length /\ len <= 9223372036854775807 := by
 rcases h with ⟨rfl, rfl, rfl, rfl⟩ | ⟨x, rfl, hl, hm, hz, _, _⟩
 ·simp
 ·unfold maxLen at hm; omega
theorem IsRow.at {k : IntKind} {w : World} {a : Option Addr} {len cap : Nat} {zs : List Int} (h : IsRow k w a len cap zs) (i : Nat) (hi : i < len) :
  ∃ b off, a = some ⟨b, off, none⟩ /\ b < w.heap.size /\ (∀ j, j < len -> w.cell? ⟨b, off + j, none⟩ = some (.int k (zs.getD j 0))) /\ (∀ j, j < len -> (Lit.int k (zs.getD j 0)).wf = true) := by
  rcases h with ⟨rfl, rfl, rfl, rfl⟩ | ⟨x, rfl, hl, hm, hz, hc, hw⟩
  ·omega
  ·obtain ⟨b, off, spot⟩ := x
   have h0 := hc 0 (by omega)
   have hspot : spot = none := by simpa [Addr.add] using World.cell?_spot h0
   subst hspot
   have hcell : ∀ j, j < len -> w.cell? ⟨b, off + j, none⟩ = some (.int k (zs.getD j 0)) := fun j hj => by
    have e : (⟨b, off, none⟩ : Addr).add j = ⟨b, off + j, none⟩ := by unfold Addr.add; split <;> simp_all
    rw [<- e]; exact hc j (by omega)
   refine ⟨b, off, rfl, World.block_lt_of_cell? w _ (hcell 0 (by omega)), hcell, fun j hj => hw _ ?_⟩
   have hj2 : j < zs.length := by omega
   have e : zs.getD j 0 = zs[j] := by simp [List.getD, List.getElem?_eq_getElem hj2]
   rw [e]
   exact List.getElem_mem _
end Go.Proofs.Ytacgakkcpmhgmaa
namespace Go.Proofs.Ytacgakkcpmhgmaa
open Go Go.RowKit Go.Proofs
theorem IsRow.readsI {w : World} {a : Option Addr} {len cap : Nat} {zs : List Int} (h : IsRow .i64 w a len cap zs) : ReadsI w (.slice a len cap) len (zs.take len) := by
 have hl := h.len_le.1
 have h0 := h
 refine ⟨by simp; omega, a, cap, rfl, ?_, ?_, ?_, fun i hi => ?_⟩
 ·rcases h with ⟨_, rfl, rfl, _⟩ | ⟨x, _, h1, _⟩
  ·exact Nat.le_refl _
  ·exact h1
 ·rcases h with ⟨_, rfl, rfl, _⟩ | ⟨x, _, _, h1, _⟩
  ·exact Nat.zero_le _
  ·exact h1
 ·rintro rfl
  rcases h with ⟨_, rfl, rfl, _⟩ | ⟨x, q, _⟩
  ·rfl
  ·cases q
 ·obtain ⟨b, off, e, _, hc, _⟩ := h0.at i hi
  refine ⟨b, off, e, fun j hj => ?_⟩
  have e2 : (zs.take len).getD j 0 = zs.getD j 0 := by simp [List.getD, hj]
  rw [e2]
  exact hc j hj
theorem xssT_at (T : List (List Nat)) {j i : Nat} (h : i < j) : (xssT T j).getD i (0, []) = ((T.getD i []).length, (intsN (T.getD i [])).map (Value.int .i64)) := by simp [xssT, List.getD, h]
theorem below_drewN {B : Nat} {w w' : World} (h : Below B w w') (d : Nat) : Below B w (w'.drewN d) := ⟨h.os, h.tape, h.output, h.size, h.block⟩
def kOf (size : Int) : Nat := (1 + size % 9).toNat
def nOf (letters : Int) : Nat := (1 + letters % 3).toNat
theorem kOf_is (size : Int) : ((kOf size : Nat) : Int) = 1 + size % 9 := by unfold kOf; omega
theorem nOf_is (letters : Int) : ((nOf letters : Nat) : Int) = 1 + letters % 3 := by unfold nOf; omega
theorem kOf_lt (size : Int) : 0 < kOf size /\ kOf size <= 9 := by unfold kOf; omega
theorem nOf_lt (letters : Int) : 0 < nOf letters /\ nOf letters <= 3 := by unfold nOf; omega
section
variable {T : List (List Nat)} {k : Nat} {f : Nat -> Nat}
theorem xss_quo (hT : RectN T k) (hS : StepN T k (EF f)) : xssN (rowsN T (EF f) (repN T (EF f))) = xssT (quoN T (EF f)) (repN T (EF f)).length := by
 apply List.ext_getElem
 ·simp [xssN, rowsN, xssT]
 ·intro i h1 h2
  have hi : i < (repN T (EF f)).length := by simpa [xssN, rowsN] using h1
  have hq := quo_at (T := T) (E := EF f) (List.getElem?_eq_getElem hi)
  have hm := rep_met hT (EF.eqv f) hS (List.getElem_mem hi)
  have hu := met_lt hT hm
  simp only [xssN, rowsN, List.getElem_map, xssT, List.getElem_range]
  rw [hq]
  generalize (repN T (EF f))[i] = u at *
  have e : (T.getD u []).map (nameN T (EF f)) = (T.getD u []).map (fun x => ((ofN T (EF f) x : Nat) : Int)) := by
   refine List.map_congr_left fun x hx => ?_
   obtain ⟨a, ha, rfl⟩ := row_mem hT hu hx
   exact name_of (met_all hT u hm a ha)
  rw [e]
  simp [intsN, Function.comp_def]
def quoO (T : List (List Nat)) (f : Nat -> Nat) (outs : List Nat) : List Nat := (repN T (EF f)).map fun x => outs.getD x 0
theorem quoO_is (outs : List Nat) : (repN T (EF f)).map (fun x => ((outs.getD x 0 : Nat) : Int)) = intsN (quoO T f outs) := by simp [quoO, intsN]
theorem quoO_at {outs : List Nat} {j u : Nat} (h : (repN T (EF f))[j]? = some u) : (quoO T f outs).getD j 0 = outs.getD u 0 := by simp [quoO, List.getD_eq_getElem?_getD, h]
theorem quoO_len (outs : List Nat) : (quoO T f outs).length = (repN T (EF f)).length := by simp [quoO]
theorem quo_next {w : World} {B : Nat} {v : Value} (hT : RectN T k) (hS : StepN T k (EF f)) (h : OwnLL w B 22 3 1 v (repN T (EF f)).length (xssN (rowsN T (EF f) (repN T (EF f))))) : NextR w v (quoN T (EF f)) := by
 rw [xss_quo hT hS] at h
 exact h.nextR quo_len (fun i hi => xssT_at _ hi)
end
end Go.Proofs.Ytacgakkcpmhgmaa
