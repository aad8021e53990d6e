/- Contracts of the sum, the program's and the reference's. Contracts of table's cursor: fail, left, take. -/
import Derived.Test.YtjkcglgkdclidaaVTableA
import Derived.Test.YtjkcglgkdclidaaVMiniFa
import Derived.IntWalk
import Derived.Test.YtjkcglgkdclidaaVMiniA
import Derived.BigQuiet
set_option linter.unusedVariables false
set_option linter.unusedSimpArgs false
set_option maxRecDepth 100000
set_option maxHeartbeats 4000000
namespace Go.Proofs.Ytjkcglgkdclidaa
open Go Go.RowKit Go.Proofs
def BytesR (w : World) (v : Value) (n : Nat) (l : List Int) : Prop := ReadsE encB 1 w v n l /\ ∀ x ∈ l, ByteI x
theorem BytesR.below {w w' : World} {v : Value} {n : Nat} {l : List Int} (h : BytesR w v n l) (hb : Below w.heap.size w w') : BytesR w' v n l := ⟨h.1.below hb, h.2⟩
theorem BytesR.form {w : World} {v : Value} {n : Nat} {l : List Int} (h : BytesR w v n l) : ∃ A c, v = .slice A n c /\ n <= c /\ c <= 9223372036854775807 /\ l.length = n := h.1.form
theorem BytesR.at {w : World} {A : Option Addr} {n c : Nat} {l : List Int} (h : BytesR w (.slice A n c) n l) {i : Nat} (hi : i < n) : ∃ b off, A = some ⟨b, off, none⟩ /\ w.cell? ⟨b, off + i, none⟩ = some (.int .u8 (l.getD i 0)) /\ ByteI (l.getD i 0) := by
 have hl : l.length = n := h.1.1
 have hx : l[i]? = some (l.getD i 0) := by rw [List.getD_eq_getElem?_getD, List.getElem?_eq_getElem (by omega)]; rfl
 obtain ⟨b, off, e, -, hc⟩ := h.1.at encB_len (by decide) i _ hx
 have := hc 0 (.int .u8 (l.getD i 0)) rfl
 rw [Nat.mul_one, Nat.add_zero] at this
 exact ⟨b, off, e, this, h.2 _ (getD_mem (by omega))⟩
theorem sum_any {w : World} {v : Value} {n : Nat} {l : List Int} (h : BytesR w v n l) :
  Calls Try.prog 23 #[v] w fun e w' => e = .returned (.int .i64 (sumI l)) /\ w' = w := by
  obtain ⟨A, cap, rfl, l1, l2, l3⟩ := h.form
  have HH := Lib.hid h
  have HL := Lib.hid l3
  clear h l3
  go_enter Try.func23, Try.ntmps23
  go_wp2_with fail
  go_loopw [3, 8] (fun v3 vi wr => ∃ i : Nat, vi = .int .i64 (i : Int) /\ i <= n /\ v3 = .int .i64 (sumI (l.take i)) /\ Hid (wr = w)) (fun _ vi _ => n - (intOf vi).toNat)
  case atStart => exact ⟨0, rfl, Nat.zero_le _, rfl, Lib.hid rfl⟩
  case round =>
   obtain ⟨i, rfl, hi, rfl, HW⟩ := hrel
   have i0 : (0 : Int) <= (i : Int) := Int.natCast_nonneg _
   have hsi := sumI_in (l.take i)
   by_cases hlt : i < n
   ·have i1 : (i : Int) < (n : Int) := by omega
    have t1 : decide (i < n) = true := by simpa using hlt
    have t2 : decide (n <= i) = false := by simpa using hlt
    have hh := HH.out
    rw [<- HW.out] at hh
    obtain ⟨g, o, e, c, hy⟩ := hh.at hlt
    subst e
    have hs := sumI_take_succ (l := l) (i := i) (by rw [HL.out]; exact hlt)
    generalize l.getD i 0 = y at *
    generalize sumI (l.take i) = s at *
    obtain ⟨y0, y1⟩ := hy
    have W0 : IntKind.i64.wrap y = y := IntWalk.i64_in _ (by omega)
    have W1 : IntKind.i64.wrap (s * 31) = s * 31 := IntWalk.i64_in _ (by omega)
    have W2 : IntKind.i64.wrap (s * 31 + y) = s * 31 + y := IntWalk.i64_in _ (by omega)
    have W3 : (s * 31 + y).tmod 1000003 = sumI (l.take (i + 1)) := by rw [hs]; exact Int.tmod_eq_emod_of_nonneg (by omega)
    clear hs hh
    go_wp2_with fail
    exact ⟨⟨i + 1, by go_num, by omega, rfl, HW⟩, by simp [intOf]; omega⟩
   ·obtain rfl : n = i := by omega
    have HE : Hid (sumI (l.take n) = sumI l) := Lib.hid (by rw [List.take_of_length_le (by rw [HL.out]; exact Nat.le_refl _)])
    go_wp2_with fail
    go_ret
    exact ⟨by rw [HE.out]; rfl, HW.out⟩
theorem rsum_any {w : World} {v : Value} {n : Nat} {l : List Int} (h : BytesR w v n l) :
  Calls Try.prog 24 #[v] w fun e w' => e = .returned (.int .i64 (sumI l)) /\ w' = w := by
  obtain ⟨A, cap, rfl, l1, l2, l3⟩ := h.form
  have HH := Lib.hid h
  have HL := Lib.hid l3
  clear h l3
  go_enter Try.func24, Try.ntmps24
  go_wp2_with fail
  go_loopw [3, 4] (fun v3 vi wr => ∃ i : Nat, vi = .int .i64 (i : Int) /\ i <= n /\ v3 = .int .i64 (sumI (l.take i)) /\ Hid (wr = w)) (fun _ vi _ => n - (intOf vi).toNat)
  case atStart => exact ⟨0, rfl, Nat.zero_le _, rfl, Lib.hid rfl⟩
  case round =>
   obtain ⟨i, rfl, hi, rfl, HW⟩ := hrel
   have i0 : (0 : Int) <= (i : Int) := Int.natCast_nonneg _
   have hsi := sumI_in (l.take i)
   by_cases hlt : i < n
   ·have i1 : (i : Int) < (n : Int) := by omega
    have t1 : decide (i < n) = true := by simpa using hlt
    have t2 : decide (n <= i) = false := by simpa using hlt
    have hh := HH.out
    rw [<- HW.out] at hh
    obtain ⟨g, o, e, c, hy⟩ := hh.at hlt
    subst e
    have hs := sumI_take_succ (l := l) (i := i) (by rw [HL.out]; exact hlt)
    generalize l.getD i 0 = y at *
    generalize sumI (l.take i) = s at *
    obtain ⟨y0, y1⟩ := hy
    have W0 : IntKind.i64.wrap y = y := IntWalk.i64_in _ (by omega)
    have W1 : IntKind.i64.wrap (s * 31) = s * 31 := IntWalk.i64_in _ (by omega)
    have W2 : IntKind.i64.wrap (s * 31 + y) = s * 31 + y := IntWalk.i64_in _ (by omega)
    have W3 : (s * 31 + y).tmod 1000003 = sumI (l.take (i + 1)) := by rw [hs]; exact Int.tmod_eq_emod_of_nonneg (by omega)
    clear hs hh
    go_wp2_with fail
    exact ⟨⟨i + 1, by go_num, by omega, rfl, HW⟩, by simp [intOf]; omega⟩
   ·obtain rfl : n = i := by omega
    have HE : Hid (sumI (l.take n) = sumI l) := Lib.hid (by rw [List.take_of_length_le (by rw [HL.out]; exact Nat.le_refl _)])
    go_wp2_with fail
    go_ret
    exact ⟨by rw [HE.out]; rfl, HW.out⟩
end Go.Proofs.Ytjkcglgkdclidaa
namespace Go.Proofs.Ytjkcglgkdclidaa
open Go Go.RowKit Go.Proofs
structure Cur (w : World) (b : Nat) (A : Option Addr) (n cap : Nat) (bs : List Int) (at_ : Nat) (br : Bool) : Prop where
 x : Blk w b 77 #[.slice A n cap, .int .i64 (at_ : Int), .bool br]
 r : BytesR w (.slice A n cap) n bs
 le : at_ <= n
theorem ReadsE.far {α : Type} {enc : α -> List Value} {k : Nat} {w w' : World} {v : Value} {n : Nat} {l : List α} {b : Nat} {t : TypeId} {cs : Array Value} (h : ReadsE enc k w v n l) (hf : Fr (fun q => q = b) w w') (hx : Blk w b t cs) (hne : ∀ a ∈ l, ∀ (j : Nat) (u : Value), (enc a)[j]? = some u -> ∀ i : Nat, cs[i]? ≠ some u) : ReadsE enc k w' v n l := by
 obtain ⟨h1, a, cap, h2, h5, h6, h3, h4⟩ := h
 refine ⟨h1, a, cap, h2, h5, h6, h3, fun i x hi => ?_⟩
 obtain ⟨g, off, e, hc⟩ := h4 i x hi
 refine ⟨g, off, e, fun j u hj => ?_⟩
 have hcu := hc j u hj
 refine hf.cell hcu (fun e => ?_)
 subst e
 rw [hx.cell] at hcu
 exact hne x (List.mem_of_getElem? hi) j u hj _ hcu
theorem BytesR.far {w w' : World} {v : Value} {n : Nat} {l : List Int} {b : Nat} {t : TypeId} {A : Option Addr} {m cap : Nat} {at_ : Int} {br : Bool} (h : BytesR w v n l) (hf : Fr (fun q => q = b) w w') (hx : Blk w b t #[.slice A m cap, .int .i64 at_, .bool br]) : BytesR w' v n l :=
 ⟨h.1.far hf hx (fun a _ j u hj i hi => by
  have hu : u = .int .u8 a := by
   match j, hj with
   | 0, hj => simpa [encB] using hj.symm
   | j + 1, hj => simp [encB] at hj
  subst hu
  match i, hi with
  | 0, hi => simp at hi
  | 1, hi => simp at hi
  | 2, hi => simp at hi
  | i + 3, hi => simp at hi), h.2⟩
section
variable {w w' : World} {b : Nat} {A : Option Addr} {n cap : Nat} {bs : List Int} {at_ : Nat} {br : Bool}
theorem Cur.set_ (h : Cur w b A n cap bs at_ br) {k : Nat} (hk : k <= n) : Cur (w.setCell ⟨b, 1, none⟩ (.int .i64 (k : Int))) b A n cap bs k br :=
 ⟨by simpa using h.x.set_ 1 (.int .i64 (k : Int)), h.r.far ((Fr.refl (fun q => q = b) w).set_ (p := ⟨b, 1, none⟩) (.inl rfl) _) h.x, hk⟩
theorem Cur.break_ (h : Cur w b A n cap bs at_ br) : Cur (w.setCell ⟨b, 2, none⟩ (.bool true)) b A n cap bs at_ true :=
 ⟨by simpa using h.x.set_ 2 (.bool true), h.r.far ((Fr.refl (fun q => q = b) w).set_ (p := ⟨b, 2, none⟩) (.inl rfl) _) h.x, h.le⟩
theorem Cur.drewN (h : Cur w b A n cap bs at_ br) (d : Nat) : Cur (w.drewN d) b A n cap bs at_ br := ⟨h.x.drewN d, h.r.below ⟨rfl, rfl, rfl, Nat.le_refl _, fun _ _ => rfl⟩, h.le⟩
theorem Cur.below (h : Cur w b A n cap bs at_ br) (hb : Below w.heap.size w w') : Cur w' b A n cap bs at_ br := ⟨Blk.below h.x hb h.x.lt, h.r.below hb, h.le⟩
end
theorem fail_any {w : World} {b : Nat} {A : Option Addr} {n cap : Nat} {bs : List Int} {at_ : Nat} {br : Bool} (h : Cur w b A n cap bs at_ br) :
  Calls Try.prog 69 #[.pointer (some ⟨b, 0, none⟩)] w fun e w' => (∃ v, e = .returned v) /\ Cur w' b A n cap bs n true /\ Fr (fun q => q = b) w w' := by
  have c0 := h.x.cell 0; have c1 := h.x.cell 1; have c2 := h.x.cell 2
  have f0 := h.x.frozen 0; have f1 := h.x.frozen 1; have f2 := h.x.frozen 2
  simp only [List.getElem?_toArray, List.getElem?_cons_zero, List.getElem?_cons_succ] at c0 c1 c2
  have HC := Lib.hid ((h.set_ (Nat.le_refl n)).break_)
  have HF := Lib.hid (((Fr.refl (fun q => q = b) w).set_ (p := ⟨b, 1, none⟩) (.inl rfl) (.int .i64 (n : Int))).set_ (p := ⟨b, 2, none⟩) (.inl rfl) (.bool true))
  clear h
  go_enter Try.func69, Try.ntmps69
  go_wp2_with fail
  go_end0
  exact ⟨⟨_, rfl⟩, HC.out, HF.out⟩
theorem left_any {w : World} {b : Nat} {A : Option Addr} {n cap : Nat} {bs : List Int} {at_ : Nat} {br : Bool} (h : Cur w b A n cap bs at_ br) :
  Calls Try.prog 68 #[.pointer (some ⟨b, 0, none⟩)] w fun e w' => e = .returned (.int .i64 (((n - at_) / 8 : Nat) : Int)) /\ ∃ d, w' = w.drewN d := by
  obtain ⟨A', c', e, l1, l2, -⟩ := h.r.form
  simp only [Value.slice.injEq, true_and] at e
  obtain ⟨rfl, rfl⟩ := e
  have hle := h.le
  have c0 := h.x.cell 0; have c1 := h.x.cell 1
  simp only [List.getElem?_toArray, List.getElem?_cons_zero, List.getElem?_cons_succ] at c0 c1
  have W1 : IntKind.i64.wrap ((n : Int) - (at_ : Int)) = (n : Int) - (at_ : Int) := IntWalk.i64_in _ (by omega)
  have W2 : ((n : Int) - (at_ : Int)).tdiv 8 = (((n - at_) / 8 : Nat) : Int) := by
   rw [Int.tdiv_eq_ediv_of_nonneg (by omega)]; omega
  have W3 : IntKind.i64.wrap (((n - at_) / 8 : Nat) : Int) = (((n - at_) / 8 : Nat) : Int) := IntWalk.i64_in _ (by omega)
  clear h
  go_enter Try.func68, Try.ntmps68
  go_wp2_with fail
  go_big_quiet (fail)
  go_wp2_with fail
  go_ret
  exact ⟨rfl, _, rfl⟩
end Go.Proofs.Ytjkcglgkdclidaa
