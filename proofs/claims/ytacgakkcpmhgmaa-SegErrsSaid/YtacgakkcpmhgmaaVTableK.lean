/- Contracts of the sum, the program's and the reference's. Contracts of table's cursor: fail, left, take. Contract of table's cursor: take. The reader by what is left: take, many. -/
import Derived.Test.YtacgakkcpmhgmaaVTableB
import Derived.Test.YtacgakkcpmhgmaaVMiniFa
import Derived.IntWalk
import Derived.Test.YtacgakkcpmhgmaaVMiniB
import Derived.BigQuiet
import Derived.Test.YtacgakkcpmhgmaaVMiniMa
import Derived.Laws.BitsLemmas
set_option linter.unusedVariables false
set_option linter.unusedSimpArgs false
namespace Go.Proofs.Ytacgakkcpmhgmaa
open Go Go.RowKit Go.Proofs
def BytesR (w : World) (v : Value) (n : Nat) (l : List Int) : Prop := ReadsE encB 1 w v n l /\ ∀ x ∈ l, ByteI x
theorem BytesR.below {w w' : World} {v : Value} {n : Nat} {l : List Int} (h : BytesR w v n l) (hb : Below w.heap.size w w') : BytesR w' v n l := ⟨h.1.below hb, h.2⟩
theorem BytesR.form {w : World} {v : Value} {n : Nat} {l : List Int} (h : BytesR w v n l) : ∃ A c, v = .slice A n c /\ n <= c /\ c <= 9223372036854775807 /\ l.length = n := h.1.form
theorem BytesR.at {w : World} {A : Option Addr} {n c : Nat} {l : List Int} (h : BytesR w (.slice A n c) n l) {i : Nat} (hi : i < n) : ∃ b off, A = some ⟨b, off, none⟩ /\ w.cell? ⟨b, off + i, none⟩ = some (.int .u8 (l.getD i 0)) /\ ByteI (l.getD i 0) := by
 have hl : l.length = n := h.1.1
 have hx : l[i]? = some (l.getD i 0) := by rw [List.getD_eq_getElem?_getD, List.getElem?_eq_getElem (by omega)]; rfl
 obtain ⟨b, off, e, -, hc⟩ := h.1.at encB_len (by decide) i _ hx
 have := hc 0 (.int .u8 (l.getD i 0)) rfl
 rw [Nat.mul_one, Nat.add_zero] at this
 exact ⟨b, off, e, this, h.2 _ (getD_mem (by omega))⟩
end Go.Proofs.Ytacgakkcpmhgmaa
namespace Go.Proofs.Ytacgakkcpmhgmaa
open Go Go.RowKit Go.Proofs
theorem ReadsE.far {α : Type} {enc : α -> List Value} {k : Nat} {w w' : World} {v : Value} {n : Nat} {l : List α} {b : Nat} {t : TypeId} {cs : Array Value} (h : ReadsE enc k w v n l) (hf : Fr (fun q => q = b) w w') (hx : Blk w b t cs) (hne : ∀ a ∈ l, ∀ (j : Nat) (u : Value), (enc a)[j]? = some u -> ∀ i : Nat, cs[i]? ≠ some u) : ReadsE enc k w' v n l := by
 obtain ⟨h1, a, cap, h2, h5, h6, h3, h4⟩ := h
 refine ⟨h1, a, cap, h2, h5, h6, h3, fun i x hi => ?_⟩
 obtain ⟨g, off, e, hc⟩ := h4 i x hi
 refine ⟨g, off, e, fun j u hj => ?_⟩
 have hcu := hc j u hj
 refine hf.cell hcu (fun e => ?_)
 subst e
 rw [hx.cell] at hcu
 exact hne x (List.mem_of_getElem? hi) j u hj _ hcu
theorem BytesR.far {w w' : World} {v : Value} {n : Nat} {l : List Int} {b : Nat} {t : TypeId} {A : Option Addr} {m cap : Nat} {at_ : Int} {br : Bool} (h : BytesR w v n l) (hf : Fr (fun q => q = b) w w') (hx : Blk w b t #[.slice A m cap, .int .i64 at_, .bool br]) : BytesR w' v n l :=
 ⟨h.1.far hf hx (fun a _ j u hj i hi => by
  have hu : u = .int .u8 a := by
   match j, hj with
   | 0, hj => simpa [encB] using hj.symm
   | j + 1, hj => simp [encB] at hj
  subst hu
  match i, hi with
  | 0, hi => simp at hi
  | 1, hi => simp at hi
  | 2, hi => simp at hi
  | i + 3, hi => simp at hi), h.2⟩
section
variable {w w' : World} {b : Nat} {A : Option Addr} {n cap : Nat} {bs : List Int} {at_ : Nat} {br : Bool}
end
end Go.Proofs.Ytacgakkcpmhgmaa
namespace Go.Proofs.Ytacgakkcpmhgmaa
open Go Go.RowKit Go.Proofs
theorem i64_or_low {x y : Int} (hx : x % 256 = 0) (h0 : 0 <= y) (h1 : y < 256) : bits .or .i64 x y = IntKind.i64.wrap (x + y) := by
 have e64 : IntKind.i64.bits = 64 := rfl
 simp only [bits, BitVec.toNat_or, BitVec.toNat_ofInt, e64]
 obtain ⟨X, hX⟩ : ∃ X : Nat, (x % ((2 ^ 64 : Nat) : Int)).toNat = X := ⟨_, rfl⟩
 obtain ⟨Y, hY⟩ : ∃ Y : Nat, (y % ((2 ^ 64 : Nat) : Int)).toNat = Y := ⟨_, rfl⟩
 have e2 : ((2 ^ 64 : Nat) : Int) = 18446744073709551616 := by decide
 rw [hX, hY]
 rw [e2] at hX hY
 have hx2 : (X : Int) = x % 18446744073709551616 := by omega
 have hy2 : (Y : Int) = y := by omega
 have hq : X = 2 ^ 8 * (X / 2 ^ 8) := by omega
 have hor : X ||| Y = X + Y := by
  have := Nat.two_pow_add_eq_or_of_lt (i := 8) (b := Y) (by omega) (X / 2 ^ 8)
  rw [<- hq] at this
  exact this.symm
 rw [hor, IntKind.wrap_i64, IntKind.wrap_i64]
 omega
end Go.Proofs.Ytacgakkcpmhgmaa
namespace Go.Proofs.Ytacgakkcpmhgmaa
open Go Go.RowKit Go.Proofs
def takeN : Option (List Int) -> Int × Option (List Int)
 | some (x :: L) => (x, some L)
 | _ => (0, none)
def leftN : Option (List Int) -> Nat
 | some L => L.length
 | none => 0
def manyN (rest : Option (List Int)) : Int × Option (List Int) :=
 if 0 <= (takeN rest).1 /\ (takeN rest).1 <= (leftN (takeN rest).2 : Int) then takeN rest else (0, none)
section
variable {w w' : World} {b : Nat} {A : Option Addr} {n cap : Nat} {bs : List Int} {rest : Option (List Int)}
end
end Go.Proofs.Ytacgakkcpmhgmaa
