/- Contract of set.And. -/
import Derived.Test.YthbnhdocjnhhlaaSetD
namespace Go.Proofs.Ythbnhdocjnhhlaa
open Go Go.RowKit

/-- A slice without its first element. -/
theorem ReadsP.tl {w : World} {b off cap n : Nat} {r : Int × Int} {l : List (Int × Int)} (h : ReadsP w (.slice (some ⟨b, off, none⟩) n cap) n (r :: l)) :
    ReadsP w (.slice (if cap = 1 then some ⟨b, off, none⟩ else some ⟨b, off + 2, none⟩) (n - 1) (cap - 1)) (n - 1) l := by
  obtain ⟨h1, a', cap', h2, h5, h6, h3, h4⟩ := h
  simp only [Value.slice.injEq, true_and] at h2
  obtain ⟨rfl, rfl⟩ := h2
  simp only [List.length_cons] at h1
  refine ⟨by omega, _, cap - 1, rfl, by omega, by omega, (fun e => by split at e <;> cases e), fun i hi => ?_⟩
  rw [if_neg (by omega)]
  obtain ⟨b', off', e, hcl⟩ := h4 0 (by omega)
  simp only [Option.some.injEq, Addr.mk.injEq] at e
  obtain ⟨rfl, rfl, _⟩ := e
  refine ⟨b, off + 2, rfl, fun j hj => ?_⟩
  have := hcl (j + 1) (by omega)
  rw [show off + (j + 1) * 2 = off + 2 + j * 2 by omega] at this
  exact this

theorem keepA {w : World} {b o : Nat} {x : Value} (h : w.cell? ⟨b, o, none⟩ = some x) (ob : Obj) : (w.alloc ob).drew.cell? ⟨b, o, none⟩ = some x := by
  show (w.alloc ob).cell? _ = _
  rw [World.cell?_alloc_past ob b o (World.block_lt_of_cell? w _ h)]; exact h
/-- Both, range by range: the one that ends first goes. -/
def andF : Nat → List (Int × Int) → List (Int × Int) → List (Int × Int)
  | f + 1, r :: a, s :: b => (if max r.1 s.1 ≤ min r.2 s.2 then [(max r.1 s.1, min r.2 s.2)] else []) ++ (if r.2 < s.2 then andF f a (s :: b) else andF f (r :: a) b)
  | _, _, _ => []

theorem _root_.Go.RowKit.Below.drewN' {C : Nat} {w w' : World} (h : Below C w w') (k : Nat) : Below C w (w'.drewN k) := ⟨h.1, h.2, h.3, h.4, h.5⟩
theorem andF_step (f : Nat) (x1 x2 y1 y2 : Int) (a b : List (Int × Int)) : andF (f + 1) ((x1, x2) :: a) ((y1, y2) :: b) = (if max x1 y1 ≤ min x2 y2 then [(max x1 y1, min x2 y2)] else []) ++ (if x2 < y2 then andF f a ((y1, y2) :: b) else andF f ((x1, x2) :: a) b) := by simp [andF]
theorem andF_nil1 (f : Nat) (b : List (Int × Int)) : andF f [] b = [] := by cases f <;> simp [andF]
theorem andF_nil2 (f : Nat) (a : List (Int × Int)) : andF f a [] = [] := by cases f <;> cases a <;> simp [andF]
def lenV : Value → Nat | .slice _ n _ => n | _ => 0
theorem andF_is (f : Nat) : ∀ (a b : List (Int × Int)) (lo lo' : Int), a.length + b.length ≤ f → RtFrom lo a → RtFrom lo' b →
    RtFrom (max lo lo') (andF f a b) ∧ ∀ n, inS (andF f a b) n ↔ inS a n ∧ inS b n := by
  induction f with
  | zero =>
    intro a b lo lo' hl _ _
    obtain rfl : a = [] := List.eq_nil_of_length_eq_zero (by omega)
    rw [andF_nil1]
    exact ⟨trivial, fun n => ⟨fun h => absurd h (inS_nil n), fun h => absurd h.1 (inS_nil n)⟩⟩
  | succ f ih =>
    intro a b lo lo' hl ha hb
    cases a with
    | nil => rw [andF_nil1]; exact ⟨trivial, fun n => ⟨fun h => absurd h (inS_nil n), fun h => absurd h.1 (inS_nil n)⟩⟩
    | cons x a =>
    cases b with
    | nil => rw [andF_nil2]; exact ⟨trivial, fun n => ⟨fun h => absurd h (inS_nil n), fun h => absurd h.2 (inS_nil n)⟩⟩
    | cons y b =>
      obtain ⟨x1, x2⟩ := x
      obtain ⟨y1, y2⟩ := y
      have ha' := ha
      have hb' := hb
      obtain ⟨a1, a2, a3, a4⟩ := ha
      obtain ⟨b1, b2, b3, b4⟩ := hb
      simp only at a1 a2 a3 a4 b1 b2 b3 b4
      simp only [List.length_cons] at hl
      rw [andF_step]
      by_cases hxy : x2 < y2
      · rw [if_pos hxy]
        have hy : RtFrom (max y1 (x2 + 1)) ((max y1 (x2 + 1), y2) :: b) := ⟨Int.le_refl _, by simp only; omega, b3, b4⟩
        obtain ⟨p, q⟩ := ih a ((y1, y2) :: b) (x2 + 2) y1 (by simp only [List.length_cons]; omega) a4 ⟨Int.le_refl _, b2, b3, b4⟩
        split
        · rename_i hc
          refine ⟨⟨by omega, hc, by simp only; omega, p.le (by simp only; omega)⟩, fun n => ?_⟩
          rw [List.singleton_append, inS_cons, q, inS_cons, inS_cons]
          simp only
          constructor
          · rintro (h | h)
            · exact ⟨.inl (by omega), .inl (by omega)⟩
            · exact ⟨.inr h.1, h.2⟩
          · rintro ⟨h | h, h'⟩
            · rcases h' with h' | h'
              · exact .inl (by omega)
              · have := b4.num h'; omega
            · exact .inr ⟨h, h'⟩
        · rename_i hc
          refine ⟨p.le (by omega), fun n => ?_⟩
          rw [List.nil_append, q, inS_cons, inS_cons]
          simp only
          constructor
          · rintro h
            exact ⟨.inr h.1, h.2⟩
          · rintro ⟨h | h, h'⟩
            · rcases h' with h' | h'
              · omega
              · have := b4.num h'; omega
            · exact ⟨h, h'⟩
      · rw [if_neg hxy]
        obtain ⟨p, q⟩ := ih ((x1, x2) :: a) b x1 (y2 + 2) (by simp only [List.length_cons]; omega) ⟨Int.le_refl _, a2, a3, a4⟩ b4
        split
        · rename_i hc
          refine ⟨⟨by omega, hc, by simp only; omega, p.le (by simp only; omega)⟩, fun n => ?_⟩
          rw [List.singleton_append, inS_cons, q, inS_cons, inS_cons]
          simp only
          constructor
          · rintro (h | h)
            · exact ⟨.inl (by omega), .inl (by omega)⟩
            · exact ⟨h.1, .inr h.2⟩
          · rintro ⟨h, h' | h'⟩
            · rcases h with h | h
              · exact .inl (by omega)
              · have := a4.num h; omega
            · exact .inr ⟨h, h'⟩
        · rename_i hc
          refine ⟨p.le (by omega), fun n => ?_⟩
          rw [List.nil_append, q, inS_cons, inS_cons]
          simp only
          constructor
          · rintro h
            exact ⟨h.1, .inr h.2⟩
          · rintro ⟨h, h' | h'⟩
            · rcases h with h | h
              · omega
              · have := a4.num h; omega
            · exact ⟨h, h'⟩
theorem andF_eq {a b : List (Int × Int)} (ha : Rt a) (hb : Rt b) : andF (a.length + b.length) a b = andL a b := by
  obtain ⟨p, q⟩ := andF_is (a.length + b.length) a b 0 0 (Nat.le_refl _) ha hb
  exact canon p andL_rt fun n => by rw [q, andL_in ha hb]

end Go.Proofs.Ythbnhdocjnhhlaa
