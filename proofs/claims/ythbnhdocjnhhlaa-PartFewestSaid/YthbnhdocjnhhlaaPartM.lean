/- What the walks of the laws of letters share. -/
import Derived.Test.YthbnhdocjnhhlaaPartL
import Derived.StillTailTactics
namespace Go.Proofs.Ythbnhdocjnhhlaa
open Go Go.RowKit
set_option linter.unusedVariables false

theorem IsRow.below {k : IntKind} {w w' : World} {a : Option Addr} {len cap : Nat} {zs : List Int} (h : IsRow k w a len cap zs) (hb : Below w.heap.size w w') : IsRow k w' a len cap zs := by
  rcases h with h | ⟨x, rfl, h1, h2, h3, h4, h5⟩
  · exact .inl h
  · exact .inr ⟨x, rfl, h1, h2, h3, fun i hi => (hb.cell (World.block_lt_of_cell? w _ (h4 i hi))).trans (h4 i hi), h5⟩
theorem IsRow.alloc {k : IntKind} {w : World} {a : Option Addr} {len cap : Nat} {zs : List Int} (h : IsRow k w a len cap zs) (o : Obj) : IsRow k (w.alloc o) a len cap zs :=
  h.below ((Below.refl _ w).alloc (Nat.le_refl _) o)

theorem rising_all {c : List Int} (h : c.Pairwise (· < ·)) {k t : Nat} (ht : t < k + 1) (hk : k < c.length) {x : Int} (hx : c.getD k 0 ≤ x) : c.getD t 0 ≤ x := by
  rcases Nat.lt_or_ge t k with g | g
  · have := rising_lt h g hk; omega
  · have : t = k := by omega
    subst this; exact hx
/-- Letter, at a number. -/
theorem plet_x {w : World} {v u : Value} {m : Nat} {ss : List (List (Int × Int))} {x : Int} (hss : RtAll ss) (h : ReadsI w v m (cutsL ss)) (h' : ReadsI w u m (letsL ss)) (hm : m ≤ 1000000000) (hx : InN x) :
    Calls Try.prog 21 #[v, u, .int .i64 x] w (SaysI w (letOf ss x : Nat)) := by
  obtain ⟨k, e, k1, k2, k3, k4⟩ := cut_of hss x hx.1 hx.2
  have hl := h.1
  have := plet_any (k := k) (x := x) h h' hm hx.2 (by omega) (fun t ht => rising_all (cutsL_is hss).1 ht k1 k2) (fun t h1 h2 => k3 t (by omega) (by omega))
  rw [letsL_at ss k k1, ← k4] at this
  exact this
theorem rlet_x {w : World} {v u : Value} {m : Nat} {ss : List (List (Int × Int))} {x : Int} (hss : RtAll ss) (h : ReadsI w v m (cutsL ss)) (h' : ReadsI w u m (letsL ss)) (hm : m ≤ 1000000000) (hx : InN x) :
    Calls Try.prog 22 #[v, u, .int .i64 x] w fun e w' => e = .returned (.int .i64 (letOf ss x : Nat)) ∧ w = w' := by
  obtain ⟨k, e, k1, k2, k3, k4⟩ := cut_of hss x hx.1 hx.2
  have hl := h.1
  have := rlet_any (k := k) (x := x) h h' hm (by omega) (fun t ht => rising_all (cutsL_is hss).1 ht k1 k2) (fun t h1 h2 => k3 t (by omega) (by omega))
  rw [letsL_at ss k k1, ← k4] at this
  exact this
theorem pcount_x {w : World} {v : Value} {m : Nat} {ss : List (List (Int × Int))} (h : ReadsI w v m (letsL ss)) (hm : m ≤ 1000000000) :
    Calls Try.prog 16 #[v] w (SaysI w ((kindsL ss).length : Nat)) := pcount_any (ks := keysL ss) h hm
theorem rcount_x {w : World} {v : Value} {m : Nat} {ss : List (List (Int × Int))} (h : ReadsI w v m (letsL ss)) (hm : m ≤ 1000000000) :
    Calls Try.prog 17 #[v] w fun e w' => e = .returned (.int .i64 ((kindsL ss).length : Nat)) ∧ w = w' := rcount_any (ks := keysL ss) h hm
/-- The sets that numbers make: right ones, no more than asked for. -/
def SomeSets (w : World) (mo : Nat) (e : Ending) (w' : World) : Prop :=
  ∃ (v : Value) (n : Nat) (ss : List (List (Int × Int))), e = .returned v ∧ RtAll ss ∧ n ≤ mo ∧ OwnSS w' w.heap.size v n ss ∧ Below w.heap.size w w'
theorem sets_x {w : World} {a : Option Addr} {len cap mo : Nat} {zs : List Int} (h : IsRow .i64 w a len cap zs) (hmo : mo ≤ 13) :
    Calls Try.prog 12 #[.slice a len cap, .int .i64 mo] w (SomeSets w mo) := by
  refine (sets_any h hmo).mono ?_
  rintro e w' ⟨v, rfl, h1, h2⟩
  have hl := setsL_len zs (min len mo) (by have := h.len_le.1; omega)
  exact ⟨v, _, _, rfl, setsL_rt _ _, by omega, h1, h2⟩
/-- Cuts of some sets. -/
def SomeCuts (w : World) (ss : List (List (Int × Int))) (e : Ending) (w' : World) : Prop :=
  ∃ (m : Nat) (a : Option Addr) (c : Nat) (a' : Option Addr) (c' : Nat), e = .returned (.tuple #[.slice a m c, .slice a' m c']) ∧ m ≤ 100000000 ∧ ReadsI w' (.slice a m c) m (cutsL ss) ∧ ReadsI w' (.slice a' m c') m (letsL ss) ∧ Below w.heap.size w w'
theorem some_cuts {w : World} {k0 : Nat} {ss : List (List (Int × Int))} {e : Ending} {w' : World} (hr : RtAll ss) (hk : ss.length ≤ 13) (h : CutTells w (cutsL ss) (letsL ss) e w') : SomeCuts w ss e w' := by
  obtain ⟨v, u, rfl, h1, h2, h3⟩ := h
  have r1 := h1.readsI
  have r2 := h2.readsI
  obtain ⟨a, c, rfl, _⟩ := r1.form
  obtain ⟨a', c', rfl, _⟩ := r2.form
  have hl := letsL_len ss
  have hm := cutsL_len hr 13 hk
  rw [hl] at r2
  exact ⟨_, a, c, a', c', by rw [hl], by omega, r1, r2, h3⟩
theorem cuts_x {w : World} {v : Value} {k0 : Nat} {ss : List (List (Int × Int))} (h : ReadsL w v k0 ss) (hr : RtAll ss) (hk0 : k0 ≤ 13) :
    Calls Try.prog 13 #[v] w (SomeCuts w ss) := (cuts_any h hr hk0).mono fun e w' hh => some_cuts (k0 := k0) hr (by rw [h.1]; exact hk0) hh
theorem rcuts_x {w : World} {v : Value} {k0 : Nat} {ss : List (List (Int × Int))} (h : ReadsL w v k0 ss) (hr : RtAll ss) (hk0 : k0 ≤ 13) :
    Calls Try.prog 14 #[v] w (SomeCuts w ss) := (rcuts_any h hr hk0).mono fun e w' hh => some_cuts (k0 := k0) hr (by rw [h.1]; exact hk0) hh
theorem OwnSS.slice {w : World} {B k : Nat} {v : Value} {ss : List (List (Int × Int))} (h : OwnSS w B v k ss) : ∃ a c, v = .slice a k c := by
  rcases OwnLL.form h with ⟨rfl, rfl, _⟩ | ⟨g, cap, rfl, _⟩
  · exact ⟨none, 0, rfl⟩
  · exact ⟨_, _, rfl⟩
theorem rhas_quiet {W : World} {d q : Nat} {v : Value} {n : Nat} {l : List (Int × Int)} {x : Int} (h : ReadsP W v n l) :
    Calls Try.prog 23 #[v, .int .i64 x] (W.drewN (d + q)) fun e w'' => e = .returned (.bool (hasB l x)) ∧ ∃ m, w'' = W.drewN (d + m) :=
  (rhas_any (show ReadsP (W.drewN (d + q)) v n l from h)).mono fun _ _ h => ⟨h.1, q, h.2.symm⟩
/-- The first sets of a row have the same keys at two numbers. -/
def sameB (ss : List (List (Int × Int))) (x y : Int) (k : Nat) : Bool := decide (keyL (ss.take k) x = keyL (ss.take k) y)
theorem sameB_zero (ss : List (List (Int × Int))) (x y : Int) : sameB ss x y 0 = true := rfl
theorem sameB_succ (ss : List (List (Int × Int))) (x y : Int) (k : Nat) (hk : k < ss.length) : sameB ss x y (k + 1) = (sameB ss x y k && (hasB (ss.getD k []) x == hasB (ss.getD k []) y)) := by
  unfold sameB
  rw [keyL_snoc ss x k hk, keyL_snoc ss y k hk]
  have hl : (keyL (ss.take k) x).length = (keyL (ss.take k) y).length := by rw [keyL_len, keyL_len]
  rw [Bool.eq_iff_iff]
  simp only [decide_eq_true_eq, Bool.and_eq_true, beq_iff_eq]
  constructor
  · intro h
    have := List.append_inj h hl
    exact ⟨this.1, by simpa using this.2⟩
  · rintro ⟨h1, h2⟩; rw [h1, h2]
theorem sameB_all (ss : List (List (Int × Int))) (x y : Int) (k : Nat) (hk : ss.length ≤ k) : sameB ss x y k = decide (keyL ss x = keyL ss y) := by
  unfold sameB; rw [List.take_of_length_le hk]
theorem wth_inN (x : Int) (n : Int) (h0 : 0 < n) (h1 : n ≤ 1114112) : InN (wth x n) := by
  have := wth_bd x n h0; exact ⟨this.1, by omega⟩

end Go.Proofs.Ythbnhdocjnhhlaa
