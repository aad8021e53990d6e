/- Plain mathematics of machines: which states are alike; parts that are split until they are. Plain mathematics of machines: states as they are first met; one for those that are alike. Plain mathematics of parts: numbers that stand part by part, the marked ones first; marking one, splitting a part. Plain mathematics of machines: the machine of one state for those that are alike. Plain mathematics of machines: states that are told apart are told apart by few letters. -/
import Derived.Test.YtacgakkcpmhgmaaVApart
set_option linter.unusedVariables false
set_option linter.unusedSimpArgs false
namespace Go.Proofs.Ytacgakkcpmhgmaa
def trN (T : List (List Nat)) (s a : Nat) : Nat := (T.getD s []).getD a 0
def runN (T : List (List Nat)) : Nat -> List Nat -> Nat
 | s, [] => s
 | s, a :: w => runN T (trN T s a) w
structure RectN (T : List (List Nat)) (k : Nat) : Prop where
 pos : 0 < T.length
 len : ∀ s, s < T.length -> (T.getD s []).length = k
 lt : ∀ s a, s < T.length -> a < k -> trN T s a < T.length
def AlikeN {α : Type} (T : List (List Nat)) (k : Nat) (g : Nat -> α) (x y : Nat) : Prop := ∀ w : List Nat, (∀ a ∈ w, a < k) -> g (runN T x w) = g (runN T y w)
section
variable {α : Type} {T : List (List Nat)} {k : Nat} {g : Nat -> α} {x y z : Nat}
theorem AlikeN.refl : AlikeN T k g x x := fun _ _ => rfl
theorem AlikeN.symm (h : AlikeN T k g x y) : AlikeN T k g y x := fun w hw => (h w hw).symm
theorem AlikeN.trans (h : AlikeN T k g x y) (h' : AlikeN T k g y z) : AlikeN T k g x z := fun w hw => (h w hw).trans (h' w hw)
theorem AlikeN.out (h : AlikeN T k g x y) : g x = g y := h [] (fun _ h => by cases h)
theorem AlikeN.step (h : AlikeN T k g x y) {a : Nat} (ha : a < k) : AlikeN T k g (trN T x a) (trN T y a) := fun w hw => h (a :: w) (fun b hb => by
 rcases List.mem_cons.1 hb with rfl | hb
 ·exact ha
 ·exact hw b hb)
theorem runN_lt (hT : RectN T k) : ∀ (w : List Nat) (s : Nat), s < T.length -> (∀ a ∈ w, a < k) -> runN T s w < T.length
 | [], s, hs, _ => hs
 | a :: w, s, hs, hw => runN_lt hT w _ (hT.lt s a hs (hw a (List.mem_cons_self ..))) (fun b hb => hw b (List.mem_cons_of_mem _ hb))
theorem alike_of {R : Nat -> Nat -> Prop} (hT : RectN T k) (hg : ∀ x y, x < T.length -> y < T.length -> R x y -> g x = g y)
  (hs : ∀ x y a, x < T.length -> y < T.length -> a < k -> R x y -> R (trN T x a) (trN T y a)) :
  ∀ (w : List Nat) (x y : Nat), x < T.length -> y < T.length -> R x y -> (∀ a ∈ w, a < k) -> g (runN T x w) = g (runN T y w)
  | [], x, y, hx, hy, h, _ => hg x y hx hy h
  | a :: w, x, y, hx, hy, h, hw => by
    have ha := hw a (List.mem_cons_self ..)
    exact alike_of hT hg hs w _ _ (hT.lt x a hx ha) (hT.lt y a hy ha) (hs x y a hx hy ha h) (fun b hb => hw b (List.mem_cons_of_mem _ hb))
end
structure Parted (n : Nat) (f : Nat -> Nat) (c : Nat) : Prop where
 lt : ∀ x, x < n -> f x < c
 full : ∀ q, q < c -> ∃ x, x < n /\ f x = q
structure SplitN (n : Nat) (f : Nat -> Nat) (c : Nat) (M : Nat -> Prop) (f' : Nat -> Nat) (c' : Nat) : Prop where
 le : c <= c'
 parted : Parted n f' c'
 same : ∀ x y, x < n -> y < n -> (f' x = f' y ↔ f x = f y /\ (M x ↔ M y))
 old : ∀ x, x < n -> f' x = f x \/ c <= f' x
theorem Parted.count_le {n : Nat} {f : Nat -> Nat} {c : Nat} (h : Parted n f c) : c <= n := by
 induction n generalizing f c with
 | zero =>
   rcases Nat.eq_zero_or_pos c with h0 | h0
   ·omega
   ·obtain ⟨x, hx, _⟩ := h.full 0 h0; omega
 | succ n ih =>
   rcases Nat.eq_zero_or_pos c with h0 | h0
   ·omega
   ·-- the last number's part is made the last one, and struck if it is alone
    have hm := h.lt n (Nat.lt_succ_self n)
    let m := f n
    let f2 : Nat -> Nat := fun x => if f x = m then c - 1 else if f x = c - 1 then m else f x
    by_cases hal : ∃ x, x < n /\ f x = m
    ·refine Nat.le_succ_of_le (ih (f := f) (c := c) ⟨fun x hx => h.lt x (by omega), fun q hq => ?_⟩)
     obtain ⟨x, hx, e⟩ := h.full q hq
     rcases Nat.lt_or_ge x n with h1 | h1
     ·exact ⟨x, h1, e⟩
     ·have : x = n := by omega
      subst this
      obtain ⟨z, hz, ez⟩ := hal
      exact ⟨z, hz, by rw [ez]; exact e⟩
    ·have hne : ∀ x, x < n -> f x ≠ m := fun x hx e => hal ⟨x, hx, e⟩
     have : c - 1 <= n := by
      refine ih (f := fun x => if f x = c - 1 then m else f x) (c := c - 1) ⟨fun x hx => ?_, fun q hq => ?_⟩
      ·have h1 := h.lt x (by omega)
       have h2 := hne x hx
       show (if f x = c - 1 then m else f x) < c - 1
       have h3 : m < c := hm
       split
       ·rename_i e; have h4 : m ≠ c - 1 := fun q => h2 (by rw [e, q]); omega
       ·omega
      ·by_cases e : q = m
       ·have : m ≠ c - 1 := by omega
        obtain ⟨x, hx, ex⟩ := h.full (c - 1) (by omega)
        rcases Nat.lt_or_ge x n with h1 | h1
        ·exact ⟨x, h1, by show (if f x = c - 1 then m else f x) = q; rw [if_pos ex]; exact e.symm⟩
        ·have : x = n := by omega
         subst this
         exact absurd ex (fun q => this (by show f x = c - 1; exact q))
       ·obtain ⟨x, hx, ex⟩ := h.full q (by omega)
        rcases Nat.lt_or_ge x n with h1 | h1
        ·exact ⟨x, h1, by show (if f x = c - 1 then m else f x) = q; rw [if_neg (by omega)]; exact ex⟩
        ·have hxn : x = n := by omega
         subst hxn
         exact absurd ex.symm e
     omega
section
variable {α : Type} {T : List (List Nat)} {k : Nat} {g : Nat -> α}
structure InvN (T : List (List Nat)) (k : Nat) (g : Nat -> α) (p : Nat) (f : Nat -> Nat) (c : Nat) : Prop where
 parted : Parted T.length f c
 alike : ∀ x y, x < T.length -> y < T.length -> AlikeN T k g x y -> f x = f y
 says : ∀ x y, x < T.length -> y < T.length -> f x = f y -> g x = g y
 owes : ∀ x y a, x < T.length -> y < T.length -> a < k -> f x = f y -> f (trN T x a) ≠ f (trN T y a) -> p <= f (trN T x a) \/ p <= f (trN T y a)
structure MidN (T : List (List Nat)) (k : Nat) (g : Nat -> α) (p : Nat) (S : Nat -> Prop) (j : Nat) (f : Nat -> Nat) (c : Nat) : Prop where
 parted : Parted T.length f c
 pc : p < c
 alike : ∀ x y, x < T.length -> y < T.length -> AlikeN T k g x y -> f x = f y
 says : ∀ x y, x < T.length -> y < T.length -> f x = f y -> g x = g y
 sets : ∀ x y, x < T.length -> y < T.length -> AlikeN T k g x y -> (S x ↔ S y)
 done : ∀ x y a, x < T.length -> y < T.length -> a < j -> f x = f y -> (S (trN T x a) ↔ S (trN T y a))
 owes : ∀ x y a, x < T.length -> y < T.length -> a < k -> f x = f y -> f (trN T x a) ≠ f (trN T y a) -> p + 1 <= f (trN T x a) \/ p + 1 <= f (trN T y a) \/ ¬(S (trN T x a) ↔ S (trN T y a))
theorem InvN.mid {p c : Nat} {f : Nat -> Nat} (hT : RectN T k) (h : InvN T k g p f c) (hp : p < c) : MidN T k g p (fun u => f u = p) 0 f c := by
 refine ⟨h.parted, hp, h.alike, h.says, fun x y hx hy e => by rw [h.alike x y hx hy e], fun x y a _ _ ha => absurd ha (Nat.not_lt_zero a), fun x y a hx hy ha e ne => ?_⟩
 rcases h.owes x y a hx hy ha e ne with h1 | h1
 ·rcases Nat.eq_or_lt_of_le h1 with h2 | h2
  ·exact .inr (.inr (by simp only [h2.symm, true_iff]; exact fun q => ne (by rw [q]; exact h2.symm)))
  ·exact .inl h2
 ·rcases Nat.eq_or_lt_of_le h1 with h2 | h2
  ·exact .inr (.inr (by simp only [h2.symm, iff_true]; exact fun q => ne (by rw [q]; exact h2)))
  ·exact .inr (.inl h2)
theorem MidN.split {p c c' j : Nat} {S : Nat -> Prop} {f f' : Nat -> Nat} (hT : RectN T k) (h : MidN T k g p S j f c) (hj : j < k) (hs : SplitN T.length f c (fun x => S (trN T x j)) f' c') : MidN T k g p S (j + 1) f' c' := by
 have hmono : ∀ x, x < T.length -> f x <= f' x := fun x hx => by
  have := h.parted.lt x hx
  rcases hs.old x hx with h1 | h1 <;> omega
 refine ⟨hs.parted, Nat.lt_of_lt_of_le h.pc hs.le, fun x y hx hy e => ?_, fun x y hx hy e => ?_, h.sets, fun x y a hx hy ha e => ?_, fun x y a hx hy ha e ne => ?_⟩
 ·exact (hs.same x y hx hy).2 ⟨h.alike x y hx hy e, h.sets _ _ (hT.lt x j hx hj) (hT.lt y j hy hj) (e.step hj)⟩
 ·exact h.says x y hx hy ((hs.same x y hx hy).1 e).1
 ·obtain ⟨e1, e2⟩ := (hs.same x y hx hy).1 e
  rcases Nat.lt_or_ge a j with h1 | h1
  ·exact h.done x y a hx hy h1 e1
  ·have : a = j := by omega
   subst this; exact e2
 ·obtain ⟨e1, _⟩ := (hs.same x y hx hy).1 e
  have tx := hT.lt x a hx ha
  have ty := hT.lt y a hy ha
  by_cases q : f (trN T x a) = f (trN T y a)
  ·have hpc := h.pc
   rcases hs.old _ tx with h1 | h1
   ·rcases hs.old _ ty with h2 | h2
    ·exact absurd (by rw [h1, h2, q]) ne
    ·exact .inr (.inl (by omega))
   ·exact .inl (by omega)
  ·rcases h.owes x y a hx hy ha e1 q with h1 | h1 | h1
   ·exact .inl (Nat.le_trans h1 (hmono _ tx))
   ·exact .inr (.inl (Nat.le_trans h1 (hmono _ ty)))
   ·exact .inr (.inr h1)
theorem MidN.inv {p c : Nat} {S : Nat -> Prop} {f : Nat -> Nat} (h : MidN T k g p S k f c) : InvN T k g (p + 1) f c := by
 refine ⟨h.parted, h.alike, h.says, fun x y a hx hy ha e ne => ?_⟩
 rcases h.owes x y a hx hy ha e ne with h1 | h1 | h1
 ·exact .inl h1
 ·exact .inr h1
 ·exact absurd (h.done x y a hx hy ha e) h1
theorem InvN.all {c : Nat} {f : Nat -> Nat} (hT : RectN T k) (h : InvN T k g c f c) {x y : Nat} (hx : x < T.length) (hy : y < T.length) : f x = f y ↔ AlikeN T k g x y := by
 refine ⟨fun e w hw => ?_, h.alike x y hx hy⟩
 refine alike_of (R := fun x y => f x = f y) hT h.says (fun x y a hx hy ha e => ?_) w x y hx hy e hw
 by_cases q : f (trN T x a) = f (trN T y a)
 ·exact q
 ·have h1 := h.parted.lt _ (hT.lt x a hx ha)
  have h2 := h.parted.lt _ (hT.lt y a hy ha)
  rcases h.owes x y a hx hy ha e q with h3 | h3 <;> omega
structure GroupN (T : List (List Nat)) (Gs : List (List Nat)) (j : Nat) (f : Nat -> Nat) (c : Nat) : Prop where
 parted : Parted T.length f c
 same : ∀ x y, x < T.length -> y < T.length -> (f x = f y ↔ ∀ i, i < j -> (x ∈ Gs.getD i [] ↔ y ∈ Gs.getD i []))
theorem GroupN.zero {Gs : List (List Nat)} (h : 0 < T.length) : GroupN T Gs 0 (fun _ => 0) 1 :=
 ⟨⟨fun _ _ => Nat.one_pos, fun q hq => ⟨0, h, by omega⟩⟩, fun x y _ _ => ⟨fun _ i hi => absurd hi (Nat.not_lt_zero i), fun _ => rfl⟩⟩
theorem GroupN.split {Gs : List (List Nat)} {j c c' : Nat} {f f' : Nat -> Nat} (h : GroupN T Gs j f c) (hs : SplitN T.length f c (fun x => x ∈ Gs.getD j []) f' c') : GroupN T Gs (j + 1) f' c' := by
 refine ⟨hs.parted, fun x y hx hy => ?_⟩
 rw [hs.same x y hx hy, h.same x y hx hy]
 constructor
 ·intro ⟨h1, h2⟩ i hi
  rcases Nat.lt_or_ge i j with q | q
  ·exact h1 i q
  ·have : i = j := by omega
   subst this; exact h2
 ·intro h1
  exact ⟨fun i hi => h1 i (by omega), h1 j (by omega)⟩
def GroupsOf (n : Nat) (g : Nat -> α) (Gs : List (List Nat)) : Prop := ∀ x y, x < n -> y < n -> ((∀ i, i < Gs.length -> (x ∈ Gs.getD i [] ↔ y ∈ Gs.getD i [])) ↔ g x = g y)
theorem GroupN.inv {Gs : List (List Nat)} {c : Nat} {f : Nat -> Nat} (hT : RectN T k) (h : GroupN T Gs Gs.length f c) (hG : GroupsOf T.length g Gs) : InvN T k g 0 f c := by
 refine ⟨h.parted, fun x y hx hy e => ?_, fun x y hx hy e => ?_, fun x y a hx hy ha e ne => .inl (Nat.zero_le _)⟩
 ·rw [h.same x y hx hy, hG x y hx hy]; exact e.out
 ·rw [<- hG x y hx hy, <- h.same x y hx hy]; exact e
end
end Go.Proofs.Ytacgakkcpmhgmaa
namespace Go.Proofs.Ytacgakkcpmhgmaa
theorem snocN {α : Type} {P : List α -> Prop} (h0 : P []) (h1 : ∀ l a, P l -> P (l ++ [a])) (l : List α) : P l := by
 have h : ∀ r : List α, P r.reverse := by
  intro r
  induction r with
  | nil => exact h0
  | cons a r ih => rw [List.reverse_cons]; exact h1 _ _ ih
 have := h l.reverse
 rwa [List.reverse_reverse] at this
theorem nodup_leN {α : Type} [DecidableEq α] : ∀ (a b : List α), a.Nodup -> (∀ x ∈ a, x ∈ b) -> a.length <= b.length
 | [], b, _, _ => Nat.zero_le _
 | x :: a, b, h, hs => by
   obtain ⟨h1, h2⟩ := List.nodup_cons.1 h
   have hx := hs x (by simp)
   have := nodup_leN a (b.erase x) h2 fun y hy => (List.mem_erase_of_ne (fun e : y = x => h1 (by rw [<- e]; exact hy))).2 (hs y (by simp [hy]))
   rw [List.length_erase_of_mem hx] at this
   have hb : 0 < b.length := List.length_pos_of_mem hx
   simp only [List.length_cons]
   omega
theorem nodup_len {m : List Nat} {n : Nat} (h : m.Nodup) (hl : ∀ x ∈ m, x < n) : m.length <= n := by
 have h1 : m ⊆ List.range n := fun x hx => List.mem_range.2 (hl x hx)
 have h2 : m.length <= (List.range n).length := nodup_leN _ _ h (fun x hx => h1 hx)
 simpa using h2
def addN (E : Nat -> Nat -> Bool) (m : List Nat) (t : Nat) : List Nat := if m.any (fun u => E u t) then m else m ++ [t]
def visitN (E : Nat -> Nat -> Bool) (row m : List Nat) : List Nat := row.foldl (addN E) m
def bfsN (T : List (List Nat)) (E : Nat -> Nat -> Bool) : Nat -> List Nat
 | 0 => [0]
 | j + 1 => match (bfsN T E j)[j]? with
   | none => bfsN T E j
   | some s => visitN E (T.getD s []) (bfsN T E j)
def eqN (u t : Nat) : Bool := decide (u = t)
def metN (T : List (List Nat)) : List Nat := bfsN T eqN T.length
def repN (T : List (List Nat)) (E : Nat -> Nat -> Bool) : List Nat := bfsN T E T.length
def ixN (E : Nat -> Nat -> Bool) (l : List Nat) (t : Nat) : Nat := l.findIdx (fun u => E u t)
def nameN (T : List (List Nat)) (E : Nat -> Nat -> Bool) (s : Nat) : Int := if s ∈ metN T then (ixN E (repN T E) s : Nat) else -1
def onceN (E : Nat -> Nat -> Bool) (m : List Nat) : List Nat := m.foldl (addN E) []
theorem addN_pre (E : Nat -> Nat -> Bool) (m : List Nat) (t : Nat) : ∃ s, addN E m t = m ++ s /\ ∀ x ∈ s, x = t := by
 unfold addN
 split
 ·exact ⟨[], by simp, by simp⟩
 ·exact ⟨[t], rfl, by simp⟩
theorem visitN_pre (E : Nat -> Nat -> Bool) : ∀ (row m : List Nat), ∃ s, visitN E row m = m ++ s /\ ∀ x ∈ s, x ∈ row
 | [], m => ⟨[], by simp [visitN], by simp⟩
 | t :: row, m => by
   obtain ⟨s1, e1, h1⟩ := addN_pre E m t
   obtain ⟨s2, e2, h2⟩ := visitN_pre E row (addN E m t)
   refine ⟨s1 ++ s2, ?_, fun x hx => ?_⟩
   ·show visitN E row (addN E m t) = _
    rw [e2, e1, List.append_assoc]
   ·rcases List.mem_append.1 hx with h | h
    ·rw [h1 x h]; exact List.mem_cons_self ..
    ·exact List.mem_cons_of_mem _ (h2 x h)
theorem visitN_snoc (E : Nat -> Nat -> Bool) (row m : List Nat) (t : Nat) : visitN E (row ++ [t]) m = addN E (visitN E row m) t := by simp [visitN]
theorem visitN_cons (E : Nat -> Nat -> Bool) (row m : List Nat) (t : Nat) : visitN E (t :: row) m = visitN E row (addN E m t) := rfl
theorem onceN_snoc (E : Nat -> Nat -> Bool) (m : List Nat) (t : Nat) : onceN E (m ++ [t]) = addN E (onceN E m) t := by simp [onceN]
theorem onceN_pre (E : Nat -> Nat -> Bool) (a b : List Nat) : ∃ s, onceN E (a ++ b) = onceN E a ++ s := by
 unfold onceN
 rw [List.foldl_append]
 obtain ⟨s, e, _⟩ := visitN_pre E b (List.foldl (addN E) [] a)
 exact ⟨s, e⟩
theorem onceN_sub (E : Nat -> Nat -> Bool) (m : List Nat) : ∀ x ∈ onceN E m, x ∈ m := by
 intro x hx
 obtain ⟨s, e, h⟩ := visitN_pre E m []
 have : x ∈ visitN E m [] := hx
 rw [e] at this
 exact h x (by simpa using this)
structure EqvN (E : Nat -> Nat -> Bool) : Prop where
 refl : ∀ x, E x x = true
 symm : ∀ x y, E x y = true -> E y x = true
 trans : ∀ x y z, E x y = true -> E y z = true -> E x z = true
theorem EqvN.eq : EqvN eqN := ⟨fun x => by simp [eqN], fun x y h => by simp [eqN] at h ⊢; exact h.symm, fun x y z h h' => by simp [eqN] at h h' ⊢; exact h.trans h'⟩
def StepN (T : List (List Nat)) (k : Nat) (E : Nat -> Nat -> Bool) : Prop := ∀ x y a, x < T.length -> y < T.length -> a < k -> E x y = true -> E (trN T x a) (trN T y a) = true
theorem StepN.eq (T : List (List Nat)) (k : Nat) : StepN T k eqN := fun x y a _ _ _ h => by simp [eqN] at h ⊢; rw [h]
theorem any_once {E : Nat -> Nat -> Bool} (hE : EqvN E) (m : List Nat) (t : Nat) : (onceN E m).any (fun u => E u t) = m.any (fun u => E u t) := by
 have key : ∀ (m : List Nat) (v : Nat), v ∈ m -> ∃ u ∈ onceN E m, E u v = true := by
  intro m
  induction m using snocN with
  | h0 => intro v h; cases h
  | h1 m x ih =>
    intro v hv
    rw [onceN_snoc]
    have h1 : ∀ v, v ∈ m -> ∃ u ∈ addN E (onceN E m) x, E u v = true := fun v h => by
     obtain ⟨u, hu, e⟩ := ih v h
     obtain ⟨s, es, _⟩ := addN_pre E (onceN E m) x
     exact ⟨u, by rw [es]; exact List.mem_append_left _ hu, e⟩
    rcases List.mem_append.1 hv with h | h
    ·exact h1 v h
    ·have : v = x := by simpa using h
     subst this
     unfold addN
     split
     ·rename_i q
      obtain ⟨u, hu, e⟩ := List.any_eq_true.1 q
      exact ⟨u, hu, e⟩
     ·exact ⟨v, by simp, hE.refl v⟩
 rw [Bool.eq_iff_iff, List.any_eq_true, List.any_eq_true]
 constructor
 ·intro ⟨u, hu, e⟩; exact ⟨u, onceN_sub E m u hu, e⟩
 ·intro ⟨v, hv, e⟩
  obtain ⟨u, hu, e'⟩ := key m v hv
  exact ⟨u, hu, hE.trans _ _ _ e' e⟩
theorem once_visit {E : Nat -> Nat -> Bool} (hE : EqvN E) : ∀ (row m : List Nat), onceN E (visitN eqN row m) = visitN E row (onceN E m)
 | [], m => rfl
 | t :: row, m => by
   rw [visitN_cons, visitN_cons, once_visit hE row]
   congr 1
   by_cases h : m.any (fun u => eqN u t) = true
   ·have h1 : addN eqN m t = m := by unfold addN; rw [if_pos h]
    rw [h1]
    unfold addN
    rw [if_pos]
    rw [any_once hE]
    obtain ⟨u, hu, e⟩ := List.any_eq_true.1 h
    have : u = t := by simpa [eqN] using e
    subst this
    exact List.any_eq_true.2 ⟨u, hu, hE.refl u⟩
   ·have h1 : addN eqN m t = m ++ [t] := by unfold addN; rw [if_neg h]
    rw [h1, onceN_snoc]
section
variable {T : List (List Nat)} {k : Nat} {E : Nat -> Nat -> Bool}
theorem row_mem (hT : RectN T k) {s t : Nat} (hs : s < T.length) (ht : t ∈ T.getD s []) : ∃ a, a < k /\ t = trN T s a := by
 obtain ⟨a, ha, e⟩ := List.getElem_of_mem ht
 have hl := hT.len s hs
 exact ⟨a, by omega, by unfold trN; rw [List.getD_eq_getElem?_getD (l := T.getD s []), List.getElem?_eq_getElem ha]; exact e.symm⟩
theorem mem_row (hT : RectN T k) {s a : Nat} (hs : s < T.length) (ha : a < k) : trN T s a ∈ T.getD s [] := by
 have hl := hT.len s hs
 unfold trN
 rw [List.getD_eq_getElem?_getD (l := T.getD s []), List.getElem?_eq_getElem (by omega)]
 exact List.getElem_mem _
theorem bfs_some {j s : Nat} (h : (bfsN T E j)[j]? = some s) : bfsN T E (j + 1) = visitN E (T.getD s []) (bfsN T E j) := by
 show (match (bfsN T E j)[j]? with | none => bfsN T E j | some s => visitN E (T.getD s []) (bfsN T E j)) = _
 rw [h]
theorem bfs_none {j : Nat} (h : (bfsN T E j)[j]? = none) : bfsN T E (j + 1) = bfsN T E j := by
 show (match (bfsN T E j)[j]? with | none => bfsN T E j | some s => visitN E (T.getD s []) (bfsN T E j)) = _
 rw [h]
theorem bfs_pre1 (j : Nat) : ∃ s, bfsN T E (j + 1) = bfsN T E j ++ s := by
 cases h : (bfsN T E j)[j]? with
 | none => exact ⟨[], by rw [bfs_none h, List.append_nil]⟩
 | some s =>
   rw [bfs_some h]
   obtain ⟨r, e, _⟩ := visitN_pre E (T.getD s []) (bfsN T E j)
   exact ⟨r, e⟩
theorem bfs_lt (hT : RectN T k) (j : Nat) : ∀ x ∈ bfsN T E j, x < T.length := by
 induction j with
 | zero => intro x hx; have : x = 0 := by simpa [bfsN] using hx
           rw [this]; exact hT.pos
 | succ j ih =>
   cases h : (bfsN T E j)[j]? with
   | none => rw [bfs_none h]; exact ih
   | some s =>
     rw [bfs_some h]
     obtain ⟨r, e, hr⟩ := visitN_pre E (T.getD s []) (bfsN T E j)
     rw [e]
     intro x hx
     have hs := ih s (List.mem_of_getElem? h)
     rcases List.mem_append.1 hx with q | q
     ·exact ih x q
     ·obtain ⟨a, ha, rfl⟩ := row_mem hT hs (hr x q)
      exact hT.lt s a hs ha
theorem bfs_stop {j : Nat} (h : (bfsN T E j).length <= j) : ∀ i, j <= i -> bfsN T E i = bfsN T E j := by
 intro i hi
 induction i with
 | zero => have : j = 0 := by omega
           rw [this]
 | succ i ih =>
   rcases Nat.eq_or_lt_of_le hi with q | q
   ·rw [q]
   ·have := ih (by omega)
    rw [bfs_none (by rw [this]; exact List.getElem?_eq_none (by omega)), this]
def ApartN (E : Nat -> Nat -> Bool) (m : List Nat) : Prop := m.Pairwise fun a b => E a b = false
theorem ApartN.add {m : List Nat} (h : ApartN E m) (t : Nat) : ApartN E (addN E m t) := by
 unfold addN
 split
 ·exact h
 ·rename_i q
  refine List.pairwise_append.2 ⟨h, List.pairwise_singleton .., fun a ha b hb => ?_⟩
  have : b = t := by simpa using hb
  subst this
  cases e : E a b with
  | false => rfl
  | true => exact absurd (List.any_eq_true.2 ⟨a, ha, e⟩) q
theorem ApartN.visit : ∀ (row : List Nat) {m : List Nat}, ApartN E m -> ApartN E (visitN E row m)
 | [], m, h => h
 | t :: row, m, h => by rw [visitN_cons]; exact ApartN.visit row (h.add t)
theorem bfs_apart (j : Nat) : ApartN E (bfsN T E j) := by
 induction j with
 | zero => exact List.pairwise_singleton ..
 | succ j ih =>
   cases h : (bfsN T E j)[j]? with
   | none => rw [bfs_none h]; exact ih
   | some s => rw [bfs_some h]; exact ih.visit _
theorem ApartN.nodup {m : List Nat} (hE : EqvN E) (h : ApartN E m) : m.Nodup := by
 refine List.Pairwise.imp ?_ h
 intro a b e q
 rw [q, hE.refl] at e; cases e
theorem bfs_len (hT : RectN T k) (hE : EqvN E) (j : Nat) : (bfsN T E j).length <= T.length := nodup_len ((bfs_apart j).nodup hE) (bfs_lt hT j)
theorem bfs_all (hT : RectN T k) (hE : EqvN E) {j : Nat} (h : (bfsN T E j).length <= j) : bfsN T E j = bfsN T E T.length := by
 rcases Nat.le_total j T.length with q | q
 ·exact (bfs_stop h _ q).symm
 ·exact bfs_stop (bfs_len hT hE _) _ q
theorem bfs_zero (j : Nat) : ∃ s, bfsN T E j = 0 :: s := by
 induction j with
 | zero => exact ⟨[], rfl⟩
 | succ j ih =>
   obtain ⟨s, e⟩ := ih
   obtain ⟨r, e'⟩ := bfs_pre1 (T := T) (E := E) j
   exact ⟨s ++ r, by rw [e', e]; rfl⟩
theorem visit_any (hE : EqvN E) : ∀ (row m : List Nat), (∀ t ∈ row, ∃ u ∈ visitN E row m, E u t = true)
 | [], m, t, h => by cases h
 | x :: row, m, t, h => by
   rw [visitN_cons]
   rcases List.mem_cons.1 h with rfl | h
   ·obtain ⟨s, e, _⟩ := visitN_pre E row (addN E m t)
    rw [e]
    unfold addN
    split
    ·rename_i q
     obtain ⟨u, hu, e⟩ := List.any_eq_true.1 q
     exact ⟨u, List.mem_append_left _ hu, e⟩
    ·exact ⟨t, by simp, hE.refl t⟩
   ·exact visit_any hE row _ t h
theorem bfs_done (hE : EqvN E) (j : Nat) : ∀ i r, i < j -> (bfsN T E j)[i]? = some r -> ∀ t ∈ T.getD r [], ∃ u ∈ bfsN T E j, E u t = true := by
 induction j with
 | zero => intro i r h; omega
 | succ j ih =>
   intro i r hi hr t ht
   obtain ⟨s, es⟩ := bfs_pre1 (T := T) (E := E) j
   cases h : (bfsN T E j)[j]? with
   | none =>
     rw [bfs_none h] at hr ⊢
     have hl : (bfsN T E j).length <= j := List.getElem?_eq_none_iff.1 h
     have hi' : i < (bfsN T E j).length := by
      rcases Nat.lt_or_ge i (bfsN T E j).length with q | q
      ·exact q
      ·rw [List.getElem?_eq_none q] at hr; cases hr
     exact ih i r (by omega) hr t ht
   | some z =>
     have hl : j < (bfsN T E j).length := (List.getElem?_eq_some_iff.1 h).1
     rw [es, List.getElem?_append_left (by omega)] at hr
     rcases Nat.lt_or_ge i j with q | q
     ·obtain ⟨u, hu, e⟩ := ih i r q hr t ht
      exact ⟨u, by rw [es]; exact List.mem_append_left _ hu, e⟩
     ·have : i = j := by omega
      subst this
      rw [h] at hr
      have : z = r := by simpa using hr
      subst this
      rw [bfs_some h]
      exact visit_any hE _ _ t ht
theorem once_met (hT : RectN T k) (hE : EqvN E) (hS : StepN T k E) : onceN E (metN T) = repN T E := by
 have main : ∀ j, onceN E (bfsN T eqN j) = bfsN T E (onceN E ((bfsN T eqN j).take j)).length := by
  intro j
  induction j with
  | zero => rfl
  | succ j ih =>
    cases h : (bfsN T eqN j)[j]? with
    | none =>
      have hl : (bfsN T eqN j).length <= j := List.getElem?_eq_none_iff.1 h
      rw [bfs_none h, List.take_of_length_le (by omega)]
      rw [List.take_of_length_le hl] at ih
      exact ih
    | some s =>
      have hl : j < (bfsN T eqN j).length := (List.getElem?_eq_some_iff.1 h).1
      obtain ⟨r, er⟩ := bfs_pre1 (T := T) (E := eqN) j
      have hs : s < T.length := bfs_lt hT j s (List.mem_of_getElem? h)
      have etake : (bfsN T eqN (j + 1)).take (j + 1) = (bfsN T eqN j).take j ++ [s] := by
       rw [er, List.take_append_of_le_length (by omega), List.take_add_one, h]; rfl
      rw [etake, onceN_snoc, bfs_some h, once_visit hE, ih]
      by_cases q : (onceN E ((bfsN T eqN j).take j)).any (fun u => E u s) = true
      ·have e1 : addN E (onceN E ((bfsN T eqN j).take j)) s = onceN E ((bfsN T eqN j).take j) := by unfold addN; rw [if_pos q]
       rw [e1, <- ih]
       rw [any_once hE] at q
       obtain ⟨u, hu, e⟩ := List.any_eq_true.1 q
       obtain ⟨i, hi, ei⟩ := List.getElem_of_mem hu
       have hi' : i < j := by have := hi; simp at this; omega
       have hui : (bfsN T eqN j)[i]? = some u := by
        rw [List.getElem_take] at ei
        rw [List.getElem?_eq_getElem (by omega), ei]
       have hu' : u < T.length := bfs_lt hT j u (List.mem_of_getElem? hui)
       have hno : ∀ (row : List Nat) , (∀ t ∈ row, t ∈ T.getD s []) -> visitN E row (onceN E (bfsN T eqN j)) = onceN E (bfsN T eqN j) := by
        intro row
        induction row with
        | nil => intro _; rfl
        | cons t row ihr =>
          intro hr
          rw [visitN_cons]
          have : addN E (onceN E (bfsN T eqN j)) t = onceN E (bfsN T eqN j) := by
           unfold addN
           rw [if_pos]
           rw [any_once hE]
           obtain ⟨a, ha, rfl⟩ := row_mem hT hs (hr t (List.mem_cons_self ..))
           obtain ⟨v, hv, ev⟩ := bfs_done EqvN.eq j i u hi' hui _ (mem_row hT hu' ha)
           have : v = trN T u a := by simpa [eqN] using ev
           exact List.any_eq_true.2 ⟨v, hv, by rw [this]; exact hS u s a hu' hs ha e⟩
          rw [this]
          exact ihr (fun t ht => hr t (List.mem_cons_of_mem _ ht))
       exact hno _ (fun t ht => ht)
      ·have e1 : addN E (onceN E ((bfsN T eqN j).take j)) s = onceN E ((bfsN T eqN j).take j) ++ [s] := by unfold addN; rw [if_neg q]
       rw [e1, List.length_append, List.length_singleton]
       refine (bfs_some ?_).symm
       rw [<- ih]
       obtain ⟨p, ep⟩ := onceN_pre E ((bfsN T eqN j).take j ++ [s]) ((bfsN T eqN j).drop (j + 1))
       have e2 : (bfsN T eqN j).take j ++ [s] ++ (bfsN T eqN j).drop (j + 1) = bfsN T eqN j := by
        have : (bfsN T eqN j).take (j + 1) = (bfsN T eqN j).take j ++ [s] := by rw [List.take_add_one, h]; rfl
        rw [<- this, List.take_append_drop]
       rw [e2, onceN_snoc, e1] at ep
       rw [ep]
       simp
 have h1 := main T.length
 have h2 : (bfsN T eqN T.length).take T.length = bfsN T eqN T.length := List.take_of_length_le (bfs_len hT EqvN.eq _)
 rw [h2] at h1
 have h3 : (bfsN T E (onceN E (metN T)).length).length <= (onceN E (metN T)).length := by
  show (bfsN T E (onceN E (bfsN T eqN T.length)).length).length <= _
  rw [<- h1]; exact Nat.le_refl _
 exact h1.trans (bfs_all hT hE h3)
inductive ReachN (T : List (List Nat)) (k : Nat) : Nat -> Prop
 | zero : ReachN T k 0
 | step {s a : Nat} : ReachN T k s -> a < k -> ReachN T k (trN T s a)
theorem ReachN.lt (hT : RectN T k) {s : Nat} (h : ReachN T k s) : s < T.length := by
 induction h with
 | zero => exact hT.pos
 | step _ ha ih => exact hT.lt _ _ ih ha
theorem met_all (hT : RectN T k) : ∀ x, x ∈ metN T -> ∀ a, a < k -> trN T x a ∈ metN T := by
 intro x hx a ha
 obtain ⟨i, hi, e⟩ := List.getElem_of_mem hx
 have hl := bfs_len hT EqvN.eq T.length
 obtain ⟨u, hu, eu⟩ := bfs_done EqvN.eq T.length i x (Nat.lt_of_lt_of_le hi hl) (by
  show (metN T)[i]? = _
  rw [List.getElem?_eq_getElem hi, e]) _ (mem_row hT (bfs_lt hT _ x hx) ha)
 have : u = trN T x a := by simpa [eqN] using eu
 rw [<- this]; exact hu
theorem met_iff (hT : RectN T k) (x : Nat) : x ∈ metN T ↔ ReachN T k x := by
 constructor
 ·have : ∀ j, ∀ x ∈ bfsN T eqN j, ReachN T k x := by
   intro j
   induction j with
   | zero => intro x hx; have : x = 0 := by simpa [bfsN] using hx
             rw [this]; exact .zero
   | succ j ih =>
     cases h : (bfsN T eqN j)[j]? with
     | none => rw [bfs_none h]; exact ih
     | some s =>
       rw [bfs_some h]
       obtain ⟨r, e, hr⟩ := visitN_pre eqN (T.getD s []) (bfsN T eqN j)
       rw [e]
       intro x hx
       have hs := List.mem_of_getElem? h
       rcases List.mem_append.1 hx with q | q
       ·exact ih x q
       ·obtain ⟨a, ha, rfl⟩ := row_mem hT (bfs_lt hT j s hs) (hr x q)
        exact .step (ih s hs) ha
  exact this _ x
 ·intro h
  induction h with
  | zero =>
    obtain ⟨s, e⟩ := bfs_zero (T := T) (E := eqN) T.length
    show 0 ∈ bfsN T eqN T.length
    rw [e]; exact List.mem_cons_self ..
  | step _ ha ih => exact met_all hT _ ih _ ha
end
end Go.Proofs.Ytacgakkcpmhgmaa
namespace Go.Proofs.Ytacgakkcpmhgmaa
def updN (f : Nat -> Nat) (i v : Nat) : Nat -> Nat := fun j => if j = i then v else f j
theorem updN_at (f : Nat -> Nat) (i v : Nat) : updN f i v i = v := if_pos rfl
theorem updN_ne (f : Nat -> Nat) {i j : Nat} (v : Nat) (h : j ≠ i) : updN f i v j = f j := if_neg h
def rowN (n : Nat) (f : Nat -> Nat) : List Int := (List.range n).map fun i => (f i : Int)
theorem rowN_len (n : Nat) (f : Nat -> Nat) : (rowN n f).length = n := by simp [rowN]
theorem rowN_get {n : Nat} (f : Nat -> Nat) {i : Nat} (h : i < n) : (rowN n f).getD i 0 = (f i : Int) := by simp [rowN, h]
theorem rowN_set (n : Nat) (f : Nat -> Nat) (i v : Nat) : (rowN n f).set i (v : Int) = rowN n (updN f i v) := by
 apply List.ext_getElem
 ·simp [rowN]
 ·intro j h1 h2
  have hj : j < n := by simpa [rowN] using h2
  simp only [rowN, updN, List.getElem_set, List.getElem_map, List.getElem_range]
  by_cases e : i = j
  ·subst e; simp
  ·rw [if_neg e, if_neg (fun q => e q.symm)]
theorem rowN_succ (n : Nat) (f : Nat -> Nat) : rowN (n + 1) f = rowN n f ++ [(f n : Int)] := by simp [rowN, List.range_succ]
theorem rowN_congr {n : Nat} {f f' : Nat -> Nat} (h : ∀ i, i < n -> f i = f' i) : rowN n f = rowN n f' := by
 unfold rowN
 refine List.map_congr_left fun i hi => ?_
 rw [h i (List.mem_range.1 hi)]
structure GoodN (N : Nat) (A P f fr to mk : Nat -> Nat) (c : Nat) (M : Nat -> Prop) (L : List Nat) : Prop where
 lt : ∀ x, x < N -> f x < c
 pa : ∀ x, x < N -> P x < N /\ A (P x) = x
 ap : ∀ i, i < N -> A i < N /\ P (A i) = i
 span : ∀ q, q < c -> fr q < to q /\ to q <= N /\ fr q + mk q <= to q
 mem : ∀ x q, x < N -> q < c -> (f x = q ↔ fr q <= P x /\ P x < to q)
 mark : ∀ x, x < N -> (M x ↔ P x < fr (f x) + mk (f x))
 touch : ∀ q, q ∈ L ↔ q < c /\ 0 < mk q
 nodup : L.Nodup
section
variable {N c : Nat} {A P f fr to mk : Nat -> Nat} {M : Nat -> Prop} {L : List Nat}
theorem GoodN.parted (h : GoodN N A P f fr to mk c M L) : Parted N f c :=
 ⟨h.lt, fun q hq => by
  obtain ⟨h1, h2, _⟩ := h.span q hq
  have h3 := h.ap (fr q) (by omega)
  exact ⟨A (fr q), h3.1, (h.mem _ q h3.1 hq).2 (by rw [h3.2]; exact ⟨Nat.le_refl _, h1⟩)⟩⟩
theorem GoodN.count_le (h : GoodN N A P f fr to mk c M L) : c <= N := h.parted.count_le
theorem GoodN.place (h : GoodN N A P f fr to mk c M L) {x : Nat} (hx : x < N) : fr (f x) <= P x /\ P x < to (f x) := (h.mem x _ hx (h.lt x hx)).1 rfl
theorem GoodN.begin (N : Nat) (h : 0 < N) : GoodN N id id (fun _ => 0) (fun _ => 0) (fun _ => N) (fun _ => 0) 1 (fun _ => False) [] := by
 refine ⟨fun _ _ => Nat.one_pos, fun x hx => ⟨hx, rfl⟩, fun x hx => ⟨hx, rfl⟩, fun q hq => ⟨h, Nat.le_refl _, by omega⟩, fun x q hx hq => ?_, fun x hx => by simp, fun q => by simp, List.nodup_nil⟩
 simp; omega
theorem GoodN.mark1 (h : GoodN N A P f fr to mk c M L) {n : Nat} (hn : n < N) (hM : ¬ M n) :
  GoodN N (updN (updN A (P n) (A (fr (f n) + mk (f n)))) (fr (f n) + mk (f n)) n) (updN (updN P (A (fr (f n) + mk (f n))) (P n)) n (fr (f n) + mk (f n))) f fr to (updN mk (f n) (mk (f n) + 1)) c (fun x => M x \/ x = n)
   (if mk (f n) = 0 then L ++ [f n] else L) := by
  obtain ⟨p1, p2⟩ := h.place hn
  have hq := h.lt n hn
  have hu : fr (f n) + mk (f n) <= P n := by
   rcases Nat.lt_or_ge (P n) (fr (f n) + mk (f n)) with q | q
   ·exact absurd ((h.mark n hn).2 q) hM
   ·exact q
  obtain ⟨s1, s2, s3⟩ := h.span _ hq
  generalize hb : fr (f n) + mk (f n) = b at *
  have hbN : b < N := by omega
  obtain ⟨a1, a2⟩ := h.ap b hbN
  obtain ⟨n1, n2⟩ := h.pa n hn
  have fb : f (A b) = f n := (h.mem _ _ a1 hq).2 (by rw [a2]; omega)
  generalize hm : A b = m at *
  -- where all stand now
  have key : ∀ x, x < N -> (updN (updN P m (P n)) n b x = if x = n then b else if x = m then P n else P x) := fun x hx => by
   unfold updN; rfl
  have pos : ∀ x, x < N -> ∀ q, q < c -> (f x = q ↔ fr q <= updN (updN P m (P n)) n b x /\ updN (updN P m (P n)) n b x < to q) := fun x hx q hqc => by
   rw [key x hx]
   split
   ·rename_i e
    subst e
    rw [<- fb]
    have := h.mem m q a1 hqc
    rw [a2] at this
    exact this
   ·split
    ·rename_i e
     subst e
     rw [fb]
     exact h.mem n q hn hqc
    ·exact h.mem x q hx hqc
  refine ⟨h.lt, fun x hx => ?_, fun i hi => ?_, fun q hqc => ?_, fun x q hx hq => pos x hx q hq, fun x hx => ?_, fun q => ?_, ?_⟩
  ·rw [key x hx]
   split
   ·rename_i e; subst e; exact ⟨hbN, updN_at _ _ _⟩
   ·rename_i ne
    split
    ·rename_i e
     subst e
     have hne : P n ≠ b := fun e => ne (by rw [<- n2, e, hm])
     exact ⟨n1, by rw [updN_ne _ _ hne, updN_at]⟩
    ·rename_i nm
     obtain ⟨x1, x2⟩ := h.pa x hx
     have h1 : P x ≠ b := fun e => nm (by rw [<- x2, e, hm])
     have h2 : P x ≠ P n := fun e => ne (by rw [<- x2, e, n2])
     exact ⟨x1, by rw [updN_ne _ _ h1, updN_ne _ _ h2, x2]⟩
  ·obtain ⟨i1, i2⟩ := h.ap i hi
   by_cases e : i = b
   ·subst e
    rw [updN_at]
    exact ⟨hn, updN_at _ _ _⟩
   ·rw [updN_ne _ _ e]
    by_cases e2 : i = P n
    ·subst e2
     rw [updN_at]
     have hne : m ≠ n := fun q => e (by rw [<- q, a2])
     exact ⟨a1, by rw [updN_ne _ _ hne, updN_at]⟩
    ·rw [updN_ne _ _ e2]
     have h1 : A i ≠ n := fun q => e2 (by rw [<- q, i2])
     have h2 : A i ≠ m := fun q => e (by rw [<- i2, q, a2])
     exact ⟨i1, by rw [updN_ne _ _ h1, updN_ne _ _ h2, i2]⟩
  ·obtain ⟨t1, t2, t3⟩ := h.span q hqc
   refine ⟨t1, t2, ?_⟩
   by_cases e : q = f n
   ·subst e; rw [updN_at]; omega
   ·rw [updN_ne _ _ e]; exact t3
  ·rw [key x hx]
   have hmx := h.mark x hx
   by_cases e : f x = f n
   ·rw [e, updN_at, <- Nat.add_assoc, hb]
    rw [e, hb] at hmx
    split
    ·rename_i q; subst q; simp
    ·rename_i ne
     split
     ·rename_i q
      subst q
      have hne : P n ≠ b := fun e => ne (by rw [<- n2, e, hm])
      rw [a2] at hmx
      constructor
      ·rintro (q | q)
       ·have := hmx.1 q; omega
       ·exact absurd q ne
      ·intro q; omega
     ·rename_i nm
      obtain ⟨x1, x2⟩ := h.pa x hx
      have h1 : P x ≠ b := fun e => nm (by rw [<- x2, e, hm])
      rw [hmx]
      constructor
      ·rintro (q | q)
       ·omega
       ·exact absurd q ne
      ·intro q; exact .inl (by omega)
   ·rw [updN_ne _ _ e]
    have h1 : x ≠ n := fun q => e (by rw [q])
    have h2 : x ≠ m := fun q => e (by rw [q, fb])
    rw [if_neg h1, if_neg h2, <- hmx]
    exact ⟨fun q => q.resolve_right h1, .inl⟩
  ·by_cases e : q = f n
   ·subst e
    rw [updN_at]
    refine ⟨fun _ => ⟨hq, Nat.succ_pos _⟩, fun _ => ?_⟩
    by_cases z : mk (f n) = 0
    ·rw [if_pos z]; simp
    ·rw [if_neg z]; exact (h.touch _).2 ⟨hq, by omega⟩
   ·rw [updN_ne _ _ e, <- h.touch q]
    by_cases z : mk (f n) = 0
    ·rw [if_pos z]; simp [e]
    ·rw [if_neg z]
  ·by_cases z : mk (f n) = 0
   ·rw [if_pos z]
    refine List.nodup_append.2 ⟨h.nodup, by simp, fun x hx y hy e => ?_⟩
    have : y = f n := by simpa using hy
    subst this; subst e
    have := ((h.touch _).1 hx).2
    omega
   ·rw [if_neg z]; exact h.nodup
theorem GoodN.whole {q : Nat} (h : GoodN N A P f fr to mk c M (q :: L)) (hw : fr q + mk q = to q) : GoodN N A P f fr to (updN mk q 0) c (fun x => M x /\ f x ≠ q) L := by
 obtain ⟨hnd, hnd2⟩ := List.nodup_cons.1 h.nodup
 refine ⟨h.lt, h.pa, h.ap, fun r hr => ?_, h.mem, fun x hx => ?_, fun r => ?_, hnd2⟩
 ·obtain ⟨t1, t2, t3⟩ := h.span r hr
  refine ⟨t1, t2, ?_⟩
  by_cases e : r = q
  ·subst e; rw [updN_at]; omega
  ·rw [updN_ne _ _ e]; exact t3
 ·have hp := h.place hx
  by_cases e : f x = q
  ·rw [e, updN_at]
   rw [e] at hp
   constructor
   ·intro q; exact absurd rfl q.2
   ·intro q; omega
  ·rw [updN_ne _ _ e, h.mark x hx]
   exact ⟨fun r => r.1, fun r => ⟨r, e⟩⟩
 ·by_cases e : r = q
  ·subst e
   rw [updN_at]
   exact ⟨fun q => absurd q hnd, fun q => absurd q.2 (Nat.lt_irrefl 0)⟩
  ·rw [updN_ne _ _ e, <- h.touch r]
   simp [e]
theorem GoodN.part {q a b : Nat} {fr' to' : Nat -> Nat} (h : GoodN N A P f fr to mk c M (q :: L))
  (hcut : (a = fr q /\ b = fr q + mk q /\ fr' = updN (updN fr q b) c a /\ to' = updN to c b) \/ (a = fr q + mk q /\ b = to q /\ fr' = updN fr c a /\ to' = updN (updN to q a) c b)) (hw : fr q + mk q ≠ to q) :
  GoodN N A P (fun x => if a <= P x /\ P x < b then c else f x) fr' to' (updN (updN mk q 0) c 0) (c + 1) (fun x => M x /\ f x ≠ q) L := by
  obtain ⟨hnd, hnd2⟩ := List.nodup_cons.1 h.nodup
  obtain ⟨hq, hmk⟩ := (h.touch q).1 (List.mem_cons_self ..)
  obtain ⟨s1, s2, s3⟩ := h.span q hq
  have hqc : q ≠ c := by omega
  have hin : ∀ x, x < N -> a <= P x -> P x < b -> f x = q := fun x hx h1 h2 => (h.mem x q hx hq).2 (by rcases hcut with ⟨e1, e2, _⟩ | ⟨e1, e2, _⟩ <;> omega)
  have frO : ∀ r, r < c -> r ≠ q -> fr' r = fr r := fun r hr hne => by
   rcases hcut with ⟨_, _, e, _⟩ | ⟨_, _, e, _⟩
   ·rw [e, updN_ne _ _ (by omega), updN_ne _ _ hne]
   ·rw [e, updN_ne _ _ (by omega)]
  have toO : ∀ r, r < c -> r ≠ q -> to' r = to r := fun r hr hne => by
   rcases hcut with ⟨_, _, _, e⟩ | ⟨_, _, _, e⟩
   ·rw [e, updN_ne _ _ (by omega)]
   ·rw [e, updN_ne _ _ (by omega), updN_ne _ _ hne]
  have frC : fr' c = a := by rcases hcut with ⟨_, _, e, _⟩ | ⟨_, _, e, _⟩ <;> rw [e, updN_at]
  have toC : to' c = b := by rcases hcut with ⟨_, _, _, e⟩ | ⟨_, _, _, e⟩ <;> rw [e, updN_at]
  have hQ : (fr' q = fr q + mk q /\ to' q = to q /\ a = fr q /\ b = fr q + mk q) \/ (fr' q = fr q /\ to' q = fr q + mk q /\ a = fr q + mk q /\ b = to q) := by
   rcases hcut with ⟨e1, e2, e3, e4⟩ | ⟨e1, e2, e3, e4⟩
   ·exact .inl ⟨by rw [e3, updN_ne _ _ hqc, updN_at, e2], by rw [e4, updN_ne _ _ hqc], e1, e2⟩
   ·exact .inr ⟨by rw [e3, updN_ne _ _ hqc], by rw [e4, updN_ne _ _ hqc, updN_at, e1], e1, e2⟩
  have memO : ∀ x, x < N -> ∀ r, r < c -> r ≠ q -> ((if a <= P x /\ P x < b then c else f x) = r ↔ f x = r) := fun x hx r hr hne => by
   split
   ·rename_i e
    have := hin x hx e.1 e.2
    constructor
    ·intro q; omega
    ·intro q; omega
   ·exact Iff.rfl
  refine ⟨fun x hx => ?_, h.pa, h.ap, fun r hr => ?_, fun x r hx hr => ?_, fun x hx => ?_, fun r => ?_, hnd2⟩
  ·have := h.lt x hx
   show (if a <= P x /\ P x < b then c else f x) < c + 1
   split <;> omega
  ·by_cases e : r = c
   ·subst e
    rw [frC, toC, updN_at]
    rcases hQ with ⟨_, _, e1, e2⟩ | ⟨_, _, e1, e2⟩ <;> omega
   ·have hr' : r < c := by omega
    rw [updN_ne _ _ e]
    by_cases e2 : r = q
    ·subst e2
     rw [updN_at]
     rcases hQ with ⟨q1, q2, e1, e2⟩ | ⟨q1, q2, e1, e2⟩ <;> rw [q1, q2] <;> omega
    ·rw [updN_ne _ _ e2, frO r hr' e2, toO r hr' e2]
     exact h.span r hr'
  ·show ((if a <= P x /\ P x < b then c else f x) = r ↔ _)
   have hfx := h.lt x hx
   by_cases e : r = c
   ·subst e
    rw [frC, toC]
    split
    ·rename_i q; exact ⟨fun _ => q, fun _ => rfl⟩
    ·rename_i q; exact ⟨fun e => by omega, fun e => absurd e q⟩
   ·have hr' : r < c := by omega
    by_cases e2 : r = q
    ·subst e2
     have hm := h.mem x r hx hq
     rcases hQ with ⟨q1, q2, e1, e2⟩ | ⟨q1, q2, e1, e2⟩
     all_goals
      rw [q1, q2]
      split
      ·rename_i q; constructor
       ·intro e; omega
       ·intro e; omega
      ·rename_i q; rw [hm]; omega
    ·rw [memO x hx r hr' e2, frO r hr' e2, toO r hr' e2]
     exact h.mem x r hx hr'
  ·show _ ↔ P x < fr' (if a <= P x /\ P x < b then c else f x) + updN (updN mk q 0) c 0 (if a <= P x /\ P x < b then c else f x)
   have hfx := h.lt x hx
   split
   ·rename_i e
    rw [frC, updN_at]
    have := hin x hx e.1 e.2
    exact ⟨fun r => absurd this r.2, fun r => by omega⟩
   ·rename_i e
    rw [updN_ne _ _ (by omega : f x ≠ c)]
    by_cases e2 : f x = q
    ·rw [e2, updN_at]
     have hp := h.place hx
     rw [e2] at hp
     refine ⟨fun r => absurd rfl r.2, fun r => ?_⟩
     rcases hQ with ⟨q1, q2, e1, e2⟩ | ⟨q1, q2, e1, e2⟩ <;> rw [q1] at r <;> omega
    ·rw [updN_ne _ _ e2, frO _ hfx e2, h.mark x hx]
     exact ⟨fun r => r.1, fun r => ⟨r, e2⟩⟩
  ·by_cases e : r = c
   ·subst e
    rw [updN_at]
    refine ⟨fun q => ?_, fun q => absurd q.2 (Nat.lt_irrefl 0)⟩
    have := ((h.touch _).1 (List.mem_cons_of_mem _ q)).1
    omega
   ·rw [updN_ne _ _ e]
    by_cases e2 : r = q
    ·subst e2
     rw [updN_at]
     exact ⟨fun q => absurd q hnd, fun q => absurd q.2 (Nat.lt_irrefl 0)⟩
    ·rw [updN_ne _ _ e2]
     have := h.touch r
     rw [List.mem_cons] at this
     constructor
     ·intro hr
      have := this.1 (.inr hr)
      exact ⟨by omega, this.2⟩
     ·intro hr
      rcases this.2 ⟨by omega, hr.2⟩ with q | q
      ·exact absurd q e2
      ·exact q
end
structure SplitAt (N : Nat) (f : Nat -> Nat) (c : Nat) (M : Nat -> Prop) (K : List Nat) (f' : Nat -> Nat) (c' : Nat) : Prop where
 le : c <= c'
 same : ∀ x y, x < N -> y < N -> (f' x = f' y ↔ f x = f y /\ (f x ∈ K -> (M x ↔ M y)))
 old : ∀ x, x < N -> f' x = f x \/ (c <= f' x /\ f x ∈ K)
theorem SplitAt.zero (N : Nat) (f : Nat -> Nat) (c : Nat) (M : Nat -> Prop) : SplitAt N f c M [] f c := ⟨Nat.le_refl _, fun x y _ _ => by simp, fun x _ => .inl rfl⟩
theorem SplitAt.all {N : Nat} {f : Nat -> Nat} {c : Nat} {M : Nat -> Prop} {K : List Nat} {f' : Nat -> Nat} {c' : Nat} (h : SplitAt N f c M K f' c') (hp : Parted N f' c') (hK : ∀ x, x < N -> M x -> f x ∈ K) : SplitN N f c M f' c' := by
 refine ⟨h.le, hp, fun x y hx hy => ?_, fun x hx => ?_⟩
 ·rw [h.same x y hx hy]
  refine ⟨fun ⟨e1, e2⟩ => ⟨e1, ?_⟩, fun ⟨e1, e2⟩ => ⟨e1, fun _ => e2⟩⟩
  by_cases q : f x ∈ K
  ·exact e2 q
  ·exact ⟨fun m => absurd (hK x hx m) q, fun m => absurd (hK y hy m) (by rw [<- e1]; exact q)⟩
 ·rcases h.old x hx with e | e
  ·exact .inl e
  ·exact .inr e.1
section
variable {N c c' q : Nat} {f f' : Nat -> Nat} {M : Nat -> Prop} {K : List Nat}
theorem SplitAt.whole (h : SplitAt N f c M K f' c') (hM : ∀ x, x < N -> f x = q -> M x) : SplitAt N f c M (K ++ [q]) f' c' := by
 refine ⟨h.le, fun x y hx hy => ?_, fun x hx => ?_⟩
 ·rw [h.same x y hx hy]
  refine ⟨fun ⟨e1, e2⟩ => ⟨e1, fun hk => ?_⟩, fun ⟨e1, e2⟩ => ⟨e1, fun hk => e2 (List.mem_append_left _ hk)⟩⟩
  rcases List.mem_append.1 hk with hk | hk
  ·exact e2 hk
  ·have : f x = q := by simpa using hk
   exact ⟨fun _ => hM y hy (e1 ▸ this), fun _ => hM x hx this⟩
 ·rcases h.old x hx with e | e
  ·exact .inl e
  ·exact .inr ⟨e.1, List.mem_append_left _ e.2⟩
theorem SplitAt.part {X : Nat -> Prop} [DecidablePred X] (h : SplitAt N f c M K f' c') (hlt : ∀ x, x < N -> f' x < c') (hq : q < c) (hqK : q ∉ K) (hX : (∀ x, x < N -> f x = q -> (X x ↔ M x)) \/ (∀ x, x < N -> f x = q -> (X x ↔ ¬ M x))) (hin : ∀ x, x < N -> X x -> f' x = q) :
  SplitAt N f c M (K ++ [q]) (fun x => if X x then c' else f' x) (c' + 1) := by
  have hf : ∀ x, x < N -> f' x = q -> f x = q := fun x hx e => by
   rcases h.old x hx with r | r
   ·rw [<- r]; exact e
   ·have := r.1; omega
  have hb : ∀ x, x < N -> f x = q -> f' x = q := fun x hx e => by
   rcases h.old x hx with r | r
   ·rw [r]; exact e
   ·exact absurd (e ▸ r.2) hqK
  refine ⟨Nat.le_succ_of_le h.le, fun x y hx hy => ?_, fun x hx => ?_⟩
  ·have hlx := hlt x hx
   have hly := hlt y hy
   show ((if X x then c' else f' x) = (if X y then c' else f' y)) ↔ _
   by_cases hxq : f x = q
   ·by_cases hyq : f y = q
    ·have e1 : f' x = f' y := by rw [hb x hx hxq, hb y hy hyq]
     have e3 : (X x ↔ X y) ↔ (M x ↔ M y) := by
      rcases hX with g | g
      ·rw [g x hx hxq, g y hy hyq]
      ·rw [g x hx hxq, g y hy hyq]
       by_cases m1 : M x <;> by_cases m2 : M y <;> simp [m1, m2]
     have e2 : ((if X x then c' else f' x) = (if X y then c' else f' y)) ↔ (X x ↔ X y) := by
      by_cases g1 : X x <;> by_cases g2 : X y <;> simp [g1, g2] <;> omega
     rw [e2, e3]
     exact ⟨fun g => ⟨by rw [hxq, hyq], fun _ => g⟩, fun g => g.2 (by rw [hxq]; simp)⟩
    ·have g2 : ¬ X y := fun g => hyq (hf y hy (hin y hy g))
     rw [if_neg g2]
     constructor
     ·intro e
      exfalso
      by_cases g1 : X x
      ·rw [if_pos g1] at e; omega
      ·rw [if_neg g1, hb x hx hxq] at e; exact hyq (hf y hy e.symm)
     ·intro g; exact absurd (g.1.symm.trans hxq) hyq
   ·have g1 : ¬ X x := fun g => hxq (hf x hx (hin x hx g))
    rw [if_neg g1]
    have e1 : f x ∈ K ++ [q] ↔ f x ∈ K := by simp [hxq]
    rw [e1, <- h.same x y hx hy]
    by_cases g2 : X y
    ·rw [if_pos g2]
     have := hin y hy g2
     constructor
     ·intro e; omega
     ·intro e; rw [this] at e; exact absurd (hf x hx e) hxq
    ·rw [if_neg g2]
  ·show (if X x then c' else f' x) = f x \/ _
   have hle := h.le
   split
   ·rename_i g
    have := hf x hx (hin x hx g)
    exact .inr ⟨hle, by rw [this]; simp⟩
   ·rcases h.old x hx with r | r
    ·exact .inl r
    ·exact .inr ⟨r.1, List.mem_append_left _ r.2⟩
end
end Go.Proofs.Ytacgakkcpmhgmaa
namespace Go.Proofs.Ytacgakkcpmhgmaa
def ofN (T : List (List Nat)) (E : Nat -> Nat -> Bool) (s : Nat) : Nat := ixN E (repN T E) s
def quoN (T : List (List Nat)) (E : Nat -> Nat -> Bool) : List (List Nat) := (repN T E).map fun s => (T.getD s []).map (ofN T E)
section
variable {T : List (List Nat)} {k : Nat} {E : Nat -> Nat -> Bool}
theorem name_of {s : Nat} (h : s ∈ metN T) : nameN T E s = (ofN T E s : Nat) := by unfold nameN; rw [if_pos h]; rfl
theorem name_met {s : Nat} (h : 0 <= nameN T E s) : s ∈ metN T := by
 unfold nameN at h
 split at h
 ·rename_i q; exact q
 ·omega
theorem met_zero : 0 ∈ metN T := by
 obtain ⟨s, e⟩ := bfs_zero (T := T) (E := eqN) T.length
 show 0 ∈ bfsN T eqN T.length
 rw [e]; exact List.mem_cons_self ..
theorem rep_zero : (repN T E)[0]? = some 0 := by
 obtain ⟨s, e⟩ := bfs_zero (T := T) (E := E) T.length
 show (bfsN T E T.length)[0]? = _
 rw [e]; rfl
theorem rep_pos : 0 < (repN T E).length := (List.getElem?_eq_some_iff.1 (rep_zero (T := T) (E := E))).1
theorem of_zero (hE : EqvN E) : ofN T E 0 = 0 := by
 obtain ⟨s, e⟩ := bfs_zero (T := T) (E := E) T.length
 unfold ofN ixN
 show (bfsN T E T.length).findIdx _ = 0
 rw [e, List.findIdx_cons, hE.refl 0]; rfl
theorem name_zero (hE : EqvN E) : nameN T E 0 = 0 := by rw [name_of met_zero, of_zero hE]; rfl
theorem of_congr (hE : EqvN E) {x y : Nat} (h : E x y = true) : ofN T E x = ofN T E y := by
 unfold ofN ixN
 congr 1
 funext u
 rw [Bool.eq_iff_iff]
 exact ⟨fun q => hE.trans _ _ _ q h, fun q => hE.trans _ _ _ q (hE.symm _ _ h)⟩
theorem rep_len (hT : RectN T k) (hE : EqvN E) : (repN T E).length <= T.length := bfs_len hT hE _
theorem rep_met (hT : RectN T k) (hE : EqvN E) (hS : StepN T k E) {u : Nat} (h : u ∈ repN T E) : u ∈ metN T := by
 rw [<- once_met hT hE hS] at h
 exact onceN_sub E _ u h
theorem met_lt (hT : RectN T k) {s : Nat} (h : s ∈ metN T) : s < T.length := bfs_lt hT _ s h
theorem rep_of (hT : RectN T k) (hE : EqvN E) (hS : StepN T k E) {s : Nat} (h : s ∈ metN T) : ∃ u, (repN T E)[ofN T E s]? = some u /\ E u s = true /\ u ∈ metN T := by
 have ha : (repN T E).any (fun u => E u s) = true := by
  rw [<- once_met hT hE hS, any_once hE]
  exact List.any_eq_true.2 ⟨s, h, hE.refl s⟩
 have hl : ofN T E s < (repN T E).length := by
  obtain ⟨u, hu, e⟩ := List.any_eq_true.1 ha
  exact List.findIdx_lt_length_of_exists ⟨u, hu, e⟩
 have he : E ((repN T E)[ofN T E s]) s = true := List.findIdx_getElem (p := fun u => E u s) (w := hl)
 exact ⟨_, List.getElem?_eq_getElem hl, he, rep_met hT hE hS (List.getElem_mem hl)⟩
theorem of_lt (hT : RectN T k) (hE : EqvN E) (hS : StepN T k E) {s : Nat} (h : s ∈ metN T) : ofN T E s < (repN T E).length := by
 obtain ⟨u, hu, _⟩ := rep_of hT hE hS h
 exact (List.getElem?_eq_some_iff.1 hu).1
theorem quo_len : (quoN T E).length = (repN T E).length := by simp [quoN]
theorem quo_at {j u : Nat} (h : (repN T E)[j]? = some u) : (quoN T E).getD j [] = (T.getD u []).map (ofN T E) := by
 simp [quoN, List.getD_eq_getElem?_getD, h]
theorem quo_tr (hT : RectN T k) {j u a : Nat} (h : (repN T E)[j]? = some u) (ha : a < k) : trN (quoN T E) j a = ofN T E (trN T u a) := by
 have hu : u < T.length := bfs_lt hT _ u (List.mem_of_getElem? h)
 have hl := hT.len u hu
 unfold trN
 rw [quo_at h]
 generalize T.getD u [] = r at *
 simp [List.getD_eq_getElem?_getD, List.getElem?_eq_getElem (show a < r.length by omega)]
theorem quo_rect (hT : RectN T k) (hE : EqvN E) (hS : StepN T k E) : RectN (quoN T E) k := by
 refine ⟨by rw [quo_len]; exact rep_pos, fun s hs => ?_, fun s a hs ha => ?_⟩
 ·rw [quo_len] at hs
  have h := List.getElem?_eq_getElem hs
  rw [quo_at h, List.length_map]
  exact hT.len _ (bfs_lt hT _ _ (List.mem_of_getElem? h))
 ·rw [quo_len] at hs
  have h := List.getElem?_eq_getElem hs
  rw [quo_tr hT h ha, quo_len]
  exact of_lt hT hE hS (met_all hT _ (rep_met hT hE hS (List.mem_of_getElem? h)) a ha)
theorem quo_of (hT : RectN T k) (hE : EqvN E) (hS : StepN T k E) {s a : Nat} (h : s ∈ metN T) (ha : a < k) : trN (quoN T E) (ofN T E s) a = ofN T E (trN T s a) := by
 obtain ⟨u, hu, e, hm⟩ := rep_of hT hE hS h
 rw [quo_tr hT hu ha]
 exact of_congr hE (hS u s a (met_lt hT hm) (met_lt hT h) ha e)
theorem rep_apart (hE : EqvN E) {i j u v : Nat} (hi : (repN T E)[i]? = some u) (hj : (repN T E)[j]? = some v) (h : i ≠ j) : E u v = false := by
 have hp : (repN T E).Pairwise fun a b => E a b = false := bfs_apart (T := T) (E := E) T.length
 obtain ⟨hi1, hi2⟩ := List.getElem?_eq_some_iff.1 hi
 obtain ⟨hj1, hj2⟩ := List.getElem?_eq_some_iff.1 hj
 rcases Nat.lt_or_gt_of_ne h with q | q
 ·have := List.pairwise_iff_getElem.1 hp i j hi1 hj1 q
  rw [hi2, hj2] at this; exact this
 ·have := List.pairwise_iff_getElem.1 hp j i hj1 hi1 q
  rw [hi2, hj2] at this
  cases h' : E u v with
  | false => rfl
  | true => rw [hE.symm _ _ h'] at this; cases this
end
end Go.Proofs.Ytacgakkcpmhgmaa
namespace Go.Proofs.Ytacgakkcpmhgmaa
def LevN {α : Type} (T : List (List Nat)) (k : Nat) (g : Nat -> α) (r x y : Nat) : Prop := ∃ w : List Nat, w.length <= r /\ (∀ a ∈ w, a < k) /\ g (runN T x w) ≠ g (runN T y w)
section
open Classical
noncomputable def cntN (n : Nat) (R : Nat -> Nat -> Prop) : Nat := ((List.range n).filter fun x => decide (∀ z, z < x -> ¬ R z x)).length
theorem cnt_le (n : Nat) (R : Nat -> Nat -> Prop) : cntN n R <= n := by
 have := List.length_filter_le (fun x => decide (∀ z, z < x -> ¬ R z x)) (List.range n)
 simpa [cntN] using this
theorem filter_lt {α : Type} {p q : α -> Bool} : ∀ (l : List α), (∀ x ∈ l, p x = true -> q x = true) -> (∃ x ∈ l, p x = false /\ q x = true) -> (l.filter p).length < (l.filter q).length
 | [], _, h => by obtain ⟨x, hx, _⟩ := h; cases hx
 | y :: l, hs, h => by
   have hsl : ∀ x ∈ l, p x = true -> q x = true := fun x hx => hs x (List.mem_cons_of_mem _ hx)
   have hle : (l.filter p).length <= (l.filter q).length := by
    clear h hs
    induction l with
    | nil => exact Nat.le_refl _
    | cons z l ih =>
      have h1 := ih (fun x hx => hsl x (List.mem_cons_of_mem _ hx))
      have h2 := hsl z (List.mem_cons_self ..)
      rw [List.filter_cons, List.filter_cons]
      by_cases hp : p z = true
      ·rw [if_pos hp, if_pos (h2 hp)]; simpa using h1
      ·rw [if_neg hp]
       split
       ·simp; omega
       ·exact h1
   rw [List.filter_cons, List.filter_cons]
   by_cases hp : p y = true
   ·rw [if_pos hp, if_pos (hs y (List.mem_cons_self ..) hp)]
    obtain ⟨x, hx, h1, h2⟩ := h
    rcases List.mem_cons.1 hx with rfl | hx
    ·rw [hp] at h1; cases h1
    ·have := filter_lt l hsl ⟨x, hx, h1, h2⟩
     simpa using this
   ·rw [if_neg hp]
    by_cases hq : q y = true
    ·rw [if_pos hq]; simp; omega
    ·rw [if_neg hq]
     obtain ⟨x, hx, h1, h2⟩ := h
     rcases List.mem_cons.1 hx with rfl | hx
     ·exact absurd h2 hq
     ·exact filter_lt l hsl ⟨x, hx, h1, h2⟩
theorem least_of {P : Nat -> Prop} {x : Nat} (h : P x) : ∃ m, P m /\ m <= x /\ ∀ z, z < m -> ¬ P z := by
 induction x using Nat.strongRecOn with
 | _ x ih =>
   by_cases q : ∃ z, z < x /\ P z
   ·obtain ⟨z, hz, hp⟩ := q
    obtain ⟨m, h1, h2, h3⟩ := ih z hz hp
    exact ⟨m, h1, by omega, h3⟩
   ·exact ⟨x, h, Nat.le_refl _, fun z hz hp => q ⟨z, hz, hp⟩⟩
theorem cnt_lt {n : Nat} {R R' : Nat -> Nat -> Prop} (hs : ∀ x y, R x y -> R y x) (ht : ∀ x y z, R x y -> R y z -> R x z) (hs' : ∀ x y, R' x y -> R' y x) (ht' : ∀ x y z, R' x y -> R' y z -> R' x z) (hr' : ∀ x, R' x x)
  (hin : ∀ x y, R' x y -> R x y) (h : ∃ x y, x < n /\ y < n /\ R x y /\ ¬ R' x y) : cntN n R < cntN n R' := by
  refine filter_lt _ (fun x _ hx => ?_) ?_
  ·simp only [decide_eq_true_eq] at hx ⊢
   exact fun z hz q => hx z hz (hin _ _ q)
  ·obtain ⟨x, y, hx, hy, hR, hN⟩ := h
   obtain ⟨m, m1, m2, m3⟩ := least_of (P := fun z => R z x) (x := x) (ht _ _ _ hR (hs _ _ hR))
   have key : ∀ u, u < n -> R m u -> ¬ R' m u -> ∃ v ∈ List.range n, decide (∀ z, z < v -> ¬ R z v) = false /\ decide (∀ z, z < v -> ¬ R' z v) = true := by
    intro u hu h1 h2
    obtain ⟨v, v1, v2, v3⟩ := least_of (P := fun z => R' z u) (x := u) (hr' u)
    refine ⟨v, List.mem_range.2 (by omega), ?_, ?_⟩
    ·simp only [decide_eq_false_iff_not]
     intro q
     have hvm : R m v := ht _ _ _ h1 (hs _ _ (hin _ _ v1))
     have hne : m ≠ v := fun e => h2 (by rw [e]; exact v1)
     have hmv : ¬ m < v := fun e => q m e hvm
     exact m3 v (by omega) (ht _ _ _ (hin _ _ v1) (ht _ _ _ (hs _ _ h1) m1))
    ·simp only [decide_eq_true_eq]
     intro z hz q
     exact v3 z hz (ht' _ _ _ q v1)
   by_cases q : R' m x
   ·refine key y hy (ht _ _ _ m1 hR) (fun e => hN (ht' _ _ _ (hs' _ _ q) e))
   ·exact key x hx m1 q
variable {α : Type} {T : List (List Nat)} {k : Nat} {g : Nat -> α}
theorem LevN.mono {r r' x y : Nat} (h : LevN T k g r x y) (hr : r <= r') : LevN T k g r' x y := by
 obtain ⟨w, h1, h2, h3⟩ := h
 exact ⟨w, by omega, h2, h3⟩
theorem lev_not {r x y : Nat} : ¬ LevN T k g r x y ↔ ∀ w : List Nat, w.length <= r -> (∀ a ∈ w, a < k) -> g (runN T x w) = g (runN T y w) :=
 ⟨fun h w h1 h2 => Classical.byContradiction fun h3 => h ⟨w, h1, h2, h3⟩, fun h ⟨w, h1, h2, h3⟩ => h3 (h w h1 h2)⟩
theorem lev_succ {r x y : Nat} : LevN T k g (r + 1) x y ↔ g x ≠ g y \/ ∃ a, a < k /\ LevN T k g r (trN T x a) (trN T y a) := by
 constructor
 ·rintro ⟨w, h1, h2, h3⟩
  cases w with
  | nil => exact .inl h3
  | cons a w =>
    exact .inr ⟨a, h2 a (List.mem_cons_self ..), w, by simpa using h1, fun b hb => h2 b (List.mem_cons_of_mem _ hb), h3⟩
 ·rintro (h | ⟨a, ha, w, h1, h2, h3⟩)
  ·exact ⟨[], by simp, by simp, h⟩
  ·refine ⟨a :: w, by simpa using h1, fun b hb => ?_, h3⟩
   rcases List.mem_cons.1 hb with rfl | hb
   ·exact ha
   ·exact h2 b hb
theorem lev_zero {x y : Nat} : LevN T k g 0 x y ↔ g x ≠ g y := by
 constructor
 ·rintro ⟨w, h1, h2, h3⟩
  obtain rfl : w = [] := List.eq_nil_of_length_eq_zero (by omega)
  exact h3
 ·exact fun h => ⟨[], by simp, by simp, h⟩
theorem lev_enough (hT : RectN T k) {x y r : Nat} (hx : x < T.length) (hy : y < T.length) (h : LevN T k g r x y) : LevN T k g T.length x y := by
 -- somewhere nothing new is told apart
 have hst : ∃ r, r < T.length /\ ∀ x y, x < T.length -> y < T.length -> LevN T k g (r + 1) x y -> LevN T k g r x y := by
  apply Classical.byContradiction
  intro hno
  have hgrow : ∀ r, r < T.length -> cntN T.length (fun x y => ¬ LevN T k g r x y) < cntN T.length (fun x y => ¬ LevN T k g (r + 1) x y) := by
   intro r hr
   refine cnt_lt (fun x y h => ?_) (fun x y z h h' => ?_) (fun x y h => ?_) (fun x y z h h' => ?_) (fun x => ?_) (fun x y h q => h (q.mono (by omega))) ?_
   ·rw [lev_not] at h ⊢; exact fun w a b => (h w a b).symm
   ·rw [lev_not] at h h' ⊢; exact fun w a b => (h w a b).trans (h' w a b)
   ·rw [lev_not] at h ⊢; exact fun w a b => (h w a b).symm
   ·rw [lev_not] at h h' ⊢; exact fun w a b => (h w a b).trans (h' w a b)
   ·rw [lev_not]; exact fun w a b => rfl
   ·apply Classical.byContradiction
    intro q
    refine hno ⟨r, hr, fun x y hx hy h => Classical.byContradiction fun h' => q ⟨x, y, hx, hy, h', fun e => e h⟩⟩
  have hcnt : ∀ r, r <= T.length -> r + 1 <= cntN T.length (fun x y => ¬ LevN T k g r x y) := by
   intro r
   induction r with
   | zero =>
     intro _
     have hp := hT.pos
     exact List.length_pos_of_mem (a := 0) (List.mem_filter.2 ⟨List.mem_range.2 hp, by simp⟩)
   | succ r ih =>
     intro hr
     have h1 := ih (by omega)
     have h2 := hgrow r (by omega)
     omega
  have h1 := hcnt T.length (Nat.le_refl _)
  have h2 := cnt_le T.length (fun x y => ¬ LevN T k g T.length x y)
  omega
 obtain ⟨q, hq, hs⟩ := hst
 have hall : ∀ d x y, x < T.length -> y < T.length -> LevN T k g (q + d) x y -> LevN T k g q x y := by
  intro d
  induction d with
  | zero => exact fun x y _ _ h => h
  | succ d ih =>
    intro x y hx hy h
    refine hs x y hx hy ?_
    have h : LevN T k g (q + d + 1) x y := h
    rw [lev_succ] at h ⊢
    rcases h with h | ⟨a, ha, h⟩
    ·exact .inl h
    ·exact .inr ⟨a, ha, ih _ _ (hT.lt x a hx ha) (hT.lt y a hy ha) h⟩
 rcases Nat.le_total r q with e | e
 ·exact h.mono (by omega)
 ·refine (hall (r - q) x y hx hy ?_).mono (by omega)
  have : q + (r - q) = r := by omega
  rw [this]; exact h
theorem not_alike {x y : Nat} (h : ¬ AlikeN T k g x y) : ∃ r, LevN T k g r x y := by
 apply Classical.byContradiction
 intro hn
 refine h fun w hw => Classical.byContradiction fun e => hn ⟨w.length, w, Nat.le_refl _, hw, e⟩
theorem LevN.not_alike {r x y : Nat} (h : LevN T k g r x y) : ¬ AlikeN T k g x y := fun q => by
 obtain ⟨w, _, h2, h3⟩ := h
 exact h3 (q w h2)
end
end Go.Proofs.Ytacgakkcpmhgmaa
