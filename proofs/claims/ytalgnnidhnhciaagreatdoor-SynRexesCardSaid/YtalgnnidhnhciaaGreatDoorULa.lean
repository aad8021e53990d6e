/- What the chapters' laws make of their arguments: patterns of raw ones, sets of numbers, files; plain mathematics. What the chapters' laws make of their arguments: sets of numbers, whole files; plain mathematics. Raw patterns that the laws are handed: where they lie. Contracts of what the laws make their arguments with: numbers brought within, names, how many raw patterns there are. Contract of how the laws make a set of a number. -/
import Derived.Test.YtalgnnidhnhciaaGreatDoorUSynF
import Derived.Test.YtalgnnidhnhciaaGreatDoorUSynP
import Derived.ChangeArms
import Derived.Deep.MidRow
import Derived.IntWalk
import Derived.LoopTactic
import Derived.Deep.LoopGhost
import Derived.Deep.QuietTactic
set_option linter.unusedVariables false
set_option linter.unusedSimpArgs false
set_option linter.unusedVariables false
set_option linter.unusedSimpArgs false
set_option maxRecDepth 100000
set_option maxHeartbeats 16000000
namespace Go.Proofs.YtalgnnidhnhciaaGreatDoor
open Go
def wthN (x n : Int) : Nat := (if x.tmod n < 0 then x.tmod n + n else x.tmod n).toNat
theorem wthN_lt (x : Int) (n : Nat) (hn : 0 < n) : wthN x n < n := by
 have h1 := Int.tmod_lt_of_pos x (show (0 : Int) < n by omega)
 have h2 : -(n : Int) < x.tmod n := by
  have := Int.tmod_lt_of_pos (-x) (show (0 : Int) < n by omega)
  rw [Int.neg_tmod] at this
  omega
 unfold wthN
 split <;> omega
inductive RawP where
 | node (k n : Int) (l : List RawP)
def RawP.k : RawP -> Int | .node k _ _ => k
def RawP.n : RawP -> Int | .node _ n _ => n
def RawP.l : RawP -> List RawP | .node _ _ l => l
def nmA : Bs := [97]
def nmV : Bs := [118]
def nmD : Bs := [100]
def nmS : Bs := [115]
def nmW : Bs := [119, 49]
def nmO : Bs := [111, 116, 104, 101, 114]
def nm4 (k : Nat) : Bs := if k = 0 then nmA else if k = 1 then nmV else if k = 2 then nmD else nmS
def rawMk (right : Bool) (k n : Int) (p0 p1 : Pat) : Pat :=
 let j := wthN k 20
 if j < 1 then .none_
 else if j < 6 then .set (nm4 (wthN n 4))
 else if j < 8 then .any_
 else if j < 13 then .cat p0 p1
 else if j < 15 then .alt p0 p1
 else if j < 16 then .star p0
 else if j < 18 then .times p0 (wthN n 3) (wthN n 3 + wthN (n.tdiv 3) 3)
 else if right then p0
 else .weight p0 (wthN n 7)
def rawLit (n : Int) (i : Nat) : Pat := .set (nm4 (wthN (IntKind.i64.wrap (n + i)) 4))
def RawP.pat (right : Bool) : RawP -> Pat
 | .node k n [] => rawMk right k n (rawLit n 0) (rawLit n 1)
 | .node k n [x] => rawMk right k n (x.pat right) (rawLit n 1)
 | .node k n (x :: y :: _) => rawMk right k n (x.pat right) (y.pat right)
def RawP.part (right : Bool) (x : RawP) (i : Nat) : Pat := match x.l[i]? with | some y => y.pat right | none => rawLit x.n i
theorem RawP.pat_eq (right : Bool) (x : RawP) : x.pat right = rawMk right x.k x.n (x.part right 0) (x.part right 1) := by
 obtain ⟨k, n, l⟩ := x
 match l with
 | [] => rw [RawP.pat]; rfl
 | [y] => rw [RawP.pat]; rfl
 | y :: z :: r => rw [RawP.pat]; rfl
def sizeR : Nat -> List RawP -> Nat
 | 0, _ => 1000
 | f + 1, l => l.foldl (fun n x => if n <= 30 then n + 1 + sizeR f x.l else n) 0
def foldR (f : Nat) (n : Nat) (l : List RawP) : Nat := l.foldl (fun n x => if n <= 30 then n + 1 + sizeR f x.l else n) n
theorem sizeR_succ (f : Nat) (l : List RawP) : sizeR (f + 1) l = foldR f 0 l := by rw [sizeR]; rfl
theorem foldR_ge (f : Nat) : ∀ (l : List RawP) (n : Nat), n <= foldR f n l := by
 intro l
 induction l with
 | nil => intro n; exact Nat.le_refl _
 | cons x l ih =>
   intro n
   show n <= foldR f (if n <= 30 then n + 1 + sizeR f x.l else n) l
   refine Nat.le_trans ?_ (ih _)
   split <;> omega
theorem foldR_stop (f : Nat) (l : List RawP) (n : Nat) (h : 30 < n) : foldR f n l = n := by
 induction l with
 | nil => rfl
 | cons x l ih =>
   show foldR f (if n <= 30 then n + 1 + sizeR f x.l else n) l = n
   rw [if_neg (by omega)]; exact ih
def sumR (f : Nat) : List RawP -> Nat
 | [] => 0
 | x :: l => 1 + sizeR f x.l + sumR f l
theorem foldR_few (f : Nat) : ∀ (l : List RawP) (n : Nat), foldR f n l <= 30 -> foldR f n l = n + sumR f l := by
 intro l
 induction l with
 | nil => intro n _; rfl
 | cons x l ih =>
   intro n h
   have h' : foldR f (if n <= 30 then n + 1 + sizeR f x.l else n) l <= 30 := h
   have hn : n <= 30 := Nat.le_trans (foldR_ge f (x :: l) n) h
   rw [if_pos hn] at h'
   show foldR f (if n <= 30 then n + 1 + sizeR f x.l else n) l = _
   rw [if_pos hn, ih _ h', sumR]
   omega
theorem sizeR_few {f : Nat} {l : List RawP} (h : sizeR f l <= 30) : ∃ f', f = f' + 1 /\ sizeR f l = sumR f' l := by
 cases f with
 | zero => simp [sizeR] at h
 | succ f =>
   rw [sizeR_succ] at h
   exact ⟨f, rfl, by rw [sizeR_succ, foldR_few f l 0 h]; omega⟩
theorem sumR_mem {f : Nat} {l : List RawP} {x : RawP} (h : x ∈ l) : 1 + sizeR f x.l <= sumR f l := by
 induction l with
 | nil => cases h
 | cons y l ih =>
   rw [sumR]
   rcases List.mem_cons.1 h with rfl | h
   ·omega
   ·have := ih h; omega
theorem sumR_two {f : Nat} {x y : RawP} {l : List RawP} : 1 + sizeR f x.l + (1 + sizeR f y.l) <= sumR f (x :: y :: l) := by
 rw [sumR, sumR]; omega
def FewR (f : Nat) (x : RawP) : Prop := sizeR f x.l <= 30
theorem FewR.part {f : Nat} {x y : RawP} {i : Nat} (h : FewR f x) (hy : x.l[i]? = some y) : ∃ f', f = f' + 1 /\ FewR f' y := by
 obtain ⟨f', rfl, he⟩ := sizeR_few h
 refine ⟨f', rfl, ?_⟩
 have := sumR_mem (f := f') (List.mem_of_getElem? hy)
 unfold FewR at h ⊢
 omega
def dNames : List Bs := [nmA, nmV, nmD, nmS]
theorem nm4_mem (k : Nat) : nm4 k ∈ dNames := by
 unfold nm4 dNames
 split
 ·simp
 ·split
  ·simp
  ·split <;> simp
theorem rawMk_ok {D : List Bs} (hD : ∀ s ∈ dNames, s ∈ D) (right : Bool) (k n : Int) (p0 p1 : Pat) (h0 : p0.Ok D (!right)) (h1 : p1.Ok D (!right)) : (rawMk right k n p0 p1).Ok D (!right) := by
 have a3 := wthN_lt n 3 (by omega)
 have b3 := wthN_lt (n.tdiv 3) 3 (by omega)
 have a7 := wthN_lt n 7 (by omega)
 simp only [Int.cast_ofNat_Int] at a3 b3 a7
 unfold rawMk
 dsimp only
 split; · trivial
 split; · exact hD _ (nm4_mem _)
 split; · trivial
 split; · exact ⟨h0, h1⟩
 split; · exact ⟨h0, h1⟩
 split; · exact h0
 split
 ·exact ⟨h0, by omega, by omega⟩
 split
 ·exact h0
 ·cases right
  ·exact ⟨h0, rfl, by omega⟩
  ·simp at *
theorem rawMk_deep (right : Bool) (k n : Int) (p0 p1 : Pat) (d : Nat) (h0 : p0.deep <= d) (h1 : p1.deep <= d) : (rawMk right k n p0 p1).deep <= d + 1 := by
 have m : ∀ (b : Bool) (x : Nat), x <= d -> more b x <= d + 1 := fun b x h => by unfold more; split <;> omega
 have m0 := m p0.atom _ h0
 have m1 := m p1.atom _ h1
 unfold rawMk
 dsimp only
 repeat' split
 all_goals (try simp only [Pat.deep])
 all_goals omega
theorem RawP.ok {D : List Bs} (hD : ∀ s ∈ dNames, s ∈ D) (right : Bool) : ∀ (f : Nat) (x : RawP), FewR f x -> (x.pat right).Ok D (!right) /\ (x.pat right).deep <= f + 1 := by
 intro f
 induction f with
 | zero => intro x h; simp [FewR, sizeR] at h
 | succ f ih =>
   intro x h
   have hp : ∀ i, (x.part right i).Ok D (!right) /\ (x.part right i).deep <= f + 1 := by
    intro i
    unfold RawP.part
    cases hy : x.l[i]? with
    | none => exact ⟨hD _ (nm4_mem _), by simp [rawLit, Pat.deep]⟩
    | some y =>
      obtain ⟨f', e, hf⟩ := h.part hy
      obtain rfl : f' = f := by omega
      exact ih y hf
   rw [RawP.pat_eq]
   exact ⟨rawMk_ok hD right _ _ _ _ (hp 0).1 (hp 1).1, rawMk_deep right _ _ _ _ _ (hp 0).2 (hp 1).2⟩
theorem nm4_len (k : Nat) : (nm4 k).length = 1 := by
 unfold nm4
 split; · rfl
 split; · rfl
 split <;> rfl
theorem dec_len1 (n : Nat) (h : n < 10) : (Lib.decDigits n).length = 1 := by rw [dec_small' h]; rfl
theorem within_len (b : Bool) (l : Bs) : (within_ b l).length <= l.length + 2 := by cases b <;> simp [within_] <;> omega
theorem rawMk_len (right : Bool) (k n : Int) (p0 p1 : Pat) : (rawMk right k n p0 p1).text.length <= p0.text.length + p1.text.length + 7 := by
 have a3 := wthN_lt n 3 (by omega)
 have b3 := wthN_lt (n.tdiv 3) 3 (by omega)
 have a7 := wthN_lt n 7 (by omega)
 simp only [Int.cast_ofNat_Int] at a3 b3 a7
 have w0 := within_len p0.atom p0.text
 have w1 := within_len p1.atom p1.text
 have hn := nm4_len (wthN n 4)
 have d1 := dec_len1 (wthN n 3) (by omega)
 have d2 := dec_len1 (wthN n 3 + wthN (n.tdiv 3) 3) (by omega)
 have d3 := dec_len1 (wthN n 7) (by omega)
 unfold rawMk
 dsimp only
 repeat' split
 all_goals simp [Pat.text, wAny]
 all_goals omega
theorem RawP.len (right : Bool) : ∀ (f : Nat) (x : RawP), FewR f x -> (x.pat right).text.length <= 9 * (1 + sizeR f x.l) := by
 intro f
 induction f with
 | zero => intro x h; simp [FewR, sizeR] at h
 | succ f ih =>
   intro x h
   obtain ⟨f', e, hs⟩ := sizeR_few h
   obtain rfl : f' = f := by omega
   have hl : ∀ n i, (rawLit n i).text.length <= 1 := fun n i => by unfold rawLit; simp only [Pat.text]; exact Nat.le_of_eq (nm4_len _)
   rw [RawP.pat_eq]
   have hm := rawMk_len right x.k x.n (x.part right 0) (x.part right 1)
   rw [hs]
   have h' : sumR f' x.l <= 30 := by rw [<- hs]; exact h
   obtain ⟨k, n, l⟩ := x
   unfold RawP.part RawP.l at hm ⊢
   match l with
   | [] => simp only [RawP.n, List.getElem?_nil] at hm ⊢; have := hl n 0; have := hl n 1; omega
   | [y] =>
     simp only [RawP.l, RawP.n, List.getElem?_cons_zero, List.getElem?_cons_succ, List.getElem?_nil] at hm h' ⊢
     have := hl n 1
     have hy : FewR f' y := by unfold FewR; simp only [sumR] at h'; omega
     have := ih y hy
     simp only [sumR] at h' ⊢
     omega
   | y :: z :: r =>
     simp only [RawP.l, RawP.n, List.getElem?_cons_zero, List.getElem?_cons_succ] at hm h' ⊢
     have hs2 := sumR_two (f := f') (x := y) (y := z) (l := r)
     have hy : FewR f' y := by unfold FewR; omega
     have hz : FewR f' z := by unfold FewR; omega
     have := ih y hy
     have := ih z hz
     omega
end Go.Proofs.YtalgnnidhnhciaaGreatDoor
set_option linter.unusedVariables false
set_option linter.unusedSimpArgs false
namespace Go.Proofs.YtalgnnidhnhciaaGreatDoor
open Go
def clsOf (D : List Bs) : Nat -> Nat -> Cls
 | 0, n => .range (n / 16 % 50 + 40) (n / 16 % 50 + 40 + n / 16 % 5)
 | f + 1, n =>
   if n % 16 < 5 then .range (n / 16 % 50 + 40) (n / 16 % 50 + 40 + n / 16 % 5)
   else if n % 16 < 6 then .range (n / 16 % 1114112) (min (n / 16 % 1114112 + n / 16 % 9) 1114111)
   else if n % 16 < 8 then .name (D.getD (n / 16 % D.length) [])
   else if n % 16 < 9 then .any_
   else if n % 16 < 10 then .not_ (clsOf D f (n / 16))
   else if n / 16 % 3 = 0 then .or_ (clsOf D f (n / 16 / 3)) (clsOf D f (n / 16 / 48))
   else if n / 16 % 3 = 1 then .and_ (clsOf D f (n / 16 / 3)) (clsOf D f (n / 16 / 48))
   else .less (clsOf D f (n / 16 / 3)) (clsOf D f (n / 16 / 48))
theorem clsOf_ok {D : List Bs} (hD : D ≠ []) : ∀ (f n : Nat), (clsOf D f n).Ok D := by
 intro f
 induction f with
 | zero => intro n; unfold clsOf; exact ⟨by omega, by omega⟩
 | succ f ih =>
   intro n
   have hl : 0 < D.length := List.length_pos_iff.2 hD
   have hm : D.getD (n / 16 % D.length) [] ∈ D := by
    rw [List.getD_eq_getElem?_getD, List.getElem?_eq_getElem (Nat.mod_lt _ hl)]
    exact List.getElem_mem _
   unfold clsOf
   split; · exact ⟨by omega, by omega⟩
   split; · exact ⟨by omega, by omega⟩
   split; · exact hm
   split; · trivial
   split; · exact ih _
   split; · exact ⟨ih _, ih _⟩
   split; · exact ⟨ih _, ih _⟩
   exact ⟨ih _, ih _⟩
theorem clsOf_deep (D : List Bs) : ∀ (f n : Nat), (clsOf D f n).deep <= 2 * f := by
 intro f
 induction f with
 | zero => intro n; unfold clsOf; simp [Cls.deep]
 | succ f ih =>
   intro n
   have m : ∀ (b : Bool) (x : Nat), x <= 2 * f -> more b x <= 2 * f + 1 := fun b x h => by unfold more; split <;> omega
   have m1 := m (clsOf D f (n / 16)).atom _ (ih (n / 16))
   have m2 := m (clsOf D f (n / 16 / 3)).atom _ (ih (n / 16 / 3))
   have m3 := m (clsOf D f (n / 16 / 48)).atom _ (ih (n / 16 / 48))
   unfold clsOf
   repeat' split
   all_goals simp only [Cls.deep]
   all_goals omega
theorem hex_len (n : Nat) (h : n <= 1114111) : (hexDigits n).length <= 6 := (hex_facts 5 n (by omega)).2.2.2
theorem range_len (lo hi : Nat) (h1 : lo <= 1114111) (h2 : hi <= 1114111) : (Cls.range lo hi).text.length <= 18 := by
 have a := hex_len lo h1
 have b := hex_len hi h2
 simp only [Cls.text]
 split <;> simp <;> omega
def clsMax : Nat -> Nat
 | 0 => 18
 | f + 1 => 2 * clsMax f + 7
theorem clsMax_ge (f : Nat) : 18 <= clsMax f := by
 induction f with
 | zero => exact Nat.le_refl _
 | succ f ih => unfold clsMax; omega
theorem clsOf_len {D : List Bs} (hD : ∀ s ∈ D, s.length <= 12) : ∀ (f n : Nat), (clsOf D f n).text.length <= clsMax f := by
 intro f
 induction f with
 | zero => intro n; unfold clsOf; exact range_len _ _ (by omega) (by omega)
 | succ f ih =>
   intro n
   have hg := clsMax_ge f
   have hm : (D[n / 16 % D.length]?.getD []).length <= 12 := by
    cases hx : D[n / 16 % D.length]? with
    | none => simp
    | some s => exact hD s (List.mem_of_getElem? hx)
   have w : ∀ m, (within_ (clsOf D f m).atom (clsOf D f m).text).length <= clsMax f + 2 := fun m => Nat.le_trans (within_len _ _) (by have := ih m; omega)
   have w1 := w (n / 16)
   have w2 := w (n / 16 / 3)
   have w3 := w (n / 16 / 48)
   unfold clsOf clsMax
   split; · exact Nat.le_trans (range_len _ _ (by omega) (by omega)) (by omega)
   split; · exact Nat.le_trans (range_len _ _ (by omega) (by omega)) (by omega)
   repeat' split
   all_goals simp [Cls.text, wAny]
   all_goals omega
def defs4 : List DefP := [⟨nmA, .range 97 97⟩, ⟨nmV, .range 97 99⟩, ⟨nmD, .or_ (.range 48 57) (.range 19968 20223)⟩, ⟨nmS, .less .any_ (.name nmV)⟩]
def nm6 (i : Nat) : Bs := if i = 0 then nmW else nmO
def addDef (l : List DefP) (i : Nat) (z : Int) : List DefP := l ++ [⟨nm6 i, clsOf (l.map DefP.name) 4 (wthN z 1099511627776)⟩]
def defsOf : List Int -> List DefP
 | [] => defs4
 | [x] => addDef defs4 0 x
 | x :: y :: _ => addDef (addDef defs4 0 x) 1 y
theorem nameA : nameOk nmA := ⟨⟨⟨97, [], rfl, by decide⟩, by decide, by decide⟩, by decide⟩
theorem nameV : nameOk nmV := ⟨⟨⟨118, [], rfl, by decide⟩, by decide, by decide⟩, by decide⟩
theorem nameD : nameOk nmD := ⟨⟨⟨100, [], rfl, by decide⟩, by decide, by decide⟩, by decide⟩
theorem nameS : nameOk nmS := ⟨⟨⟨115, [], rfl, by decide⟩, by decide, by decide⟩, by decide⟩
theorem nameW : nameOk nmW := ⟨⟨⟨119, [49], rfl, by decide⟩, by decide, by decide⟩, by decide⟩
theorem nameO : nameOk nmO := ⟨⟨⟨111, [116, 104, 101, 114], rfl, by decide⟩, by decide, by decide⟩, by decide⟩
theorem defs4_ok : defsOk [] defs4 := by
 refine ⟨⟨nameA, by decide, by simp [Cls.Ok], by decide⟩, ⟨nameV, by decide, by simp [Cls.Ok], by decide⟩, ⟨nameD, by decide, by simp [Cls.Ok], by decide⟩, ⟨nameS, by decide, ?_, by decide⟩, trivial⟩
 exact ⟨trivial, by show nmV ∈ [] ++ [nmA] ++ [nmV] ++ [nmD]; decide⟩
theorem defsOk_snoc (l : List DefP) (d : DefP) : ∀ D, defsOk D l -> d.Ok (D ++ l.map DefP.name) -> defsOk D (l ++ [d]) := by
 induction l with
 | nil => intro D _ h; exact ⟨by simpa using h, trivial⟩
 | cons x l ih =>
   intro D h1 h2
   exact ⟨h1.1, ih _ h1.2 (by simpa using h2)⟩
theorem defsOf_names (ds : List Int) : (defsOf ds).map DefP.name = dNames \/ (defsOf ds).map DefP.name = dNames ++ [nmW] \/ (defsOf ds).map DefP.name = dNames ++ [nmW, nmO] := by
 match ds with
 | [] => exact .inl rfl
 | [x] => exact .inr (.inl rfl)
 | x :: y :: _ => exact .inr (.inr rfl)
theorem defsOf_mem (ds : List Int) : ∀ s ∈ dNames, s ∈ (defsOf ds).map DefP.name := by
 intro s hs
 rcases defsOf_names ds with h | h | h <;> rw [h]
 ·exact hs
 ·exact List.mem_append_left _ hs
 ·exact List.mem_append_left _ hs
theorem defsOf_ok (ds : List Int) : defsOk [] (defsOf ds) := by
 have h0 := defs4_ok
 have h1 : ∀ x, defsOk [] (addDef defs4 0 x) := fun x => defsOk_snoc _ _ _ h0 ⟨nameW, by show nmW ∉ [] ++ dNames; decide, by rw [List.nil_append]; exact clsOf_ok (by simp [defs4]) _ _, Nat.le_trans (clsOf_deep _ _ _) (by decide)⟩
 match ds with
 | [] => exact h0
 | [x] => exact h1 x
 | x :: y :: _ => exact defsOk_snoc _ _ _ (h1 x) ⟨nameO, by show nmO ∉ [] ++ [nmA, nmV, nmD, nmS, nmW]; decide, by rw [List.nil_append]; exact clsOf_ok (by simp [addDef]) _ _, Nat.le_trans (clsOf_deep _ _ _) (by decide)⟩
theorem defsOf_len (ds : List Int) : 4 <= (defsOf ds).length /\ (defsOf ds).length <= 6 := by
 match ds with
 | [] => exact ⟨by simp [defsOf, defs4], by simp [defsOf, defs4]⟩
 | [x] => exact ⟨by simp [defsOf, addDef, defs4], by simp [defsOf, addDef, defs4]⟩
 | x :: y :: _ => exact ⟨by simp [defsOf, addDef, defs4], by simp [defsOf, addDef, defs4]⟩
theorem defsText_app (a b : List DefP) : defsText (a ++ b) = defsText a ++ defsText b := by
 induction a with
 | nil => rfl
 | cons x a ih => simp [defsText, ih]
theorem defs4_text : (defsText defs4).length <= 130 := by decide +kernel
theorem def_len (nm : Bs) (c : Cls) (m : Nat) (h1 : nm.length <= 12) (h2 : c.text.length <= m) : (DefP.text ⟨nm, c⟩).length <= m + 30 := by
 simp [DefP.text, wClass]; omega
theorem addDef_text (l : List DefP) (i : Nat) (z : Int) (hl : ∀ d ∈ l, d.name.length <= 12) : (defsText (addDef l i z)).length <= (defsText l).length + 423 := by
 have h1 : (nm6 i).length <= 12 := by unfold nm6; split <;> decide
 have h2 := clsOf_len (D := l.map DefP.name) (fun s hs => by obtain ⟨d, hd, rfl⟩ := List.mem_map.1 hs; exact hl d hd) 4 (wthN z 1099511627776)
 have h3 := def_len (nm6 i) _ _ h1 h2
 have e : clsMax 4 = 393 := rfl
 rw [e] at h3
 unfold addDef
 rw [defsText_app]
 simp only [defsText, List.append_nil, List.length_append]
 omega
theorem defs4_small : ∀ d ∈ defs4, d.name.length <= 12 := by
 intro d hd
 simp only [defs4, List.mem_cons, List.not_mem_nil, or_false] at hd
 rcases hd with rfl | rfl | rfl | rfl <;> decide
theorem defsOf_text (ds : List Int) : (defsText (defsOf ds)).length <= 976 := by
 have h0 := defs4_text
 have h1 := fun x => addDef_text defs4 0 x defs4_small
 match ds with
 | [] => show (defsText defs4).length <= 976; omega
 | [x] => have := h1 x; show (defsText (addDef defs4 0 x)).length <= 976; omega
 | x :: y :: _ =>
   have a := h1 x
   have b := addDef_text (addDef defs4 0 x) 1 y (fun d hd => by
    rcases List.mem_append.1 hd with hd | hd
    ·exact defs4_small d hd
    ·obtain rfl : d = ⟨nm6 0, _⟩ := List.mem_singleton.1 hd
     show nmW.length <= 12
     decide)
   show (defsText (addDef (addDef defs4 0 x) 1 y)).length <= 976
   omega
def ruleN (ns : List Int) (j : Nat) : Nat := match ns[j]? with | some z => wthN z 1073741824 | none => 2 * j
def ruleOf (l : List RawP) (ns : List Int) (j : Nat) : RuleP := ⟨ruleN ns j % 3, ruleN ns j / 3 % 20, (l.getD (2 * j) (.node 0 0 [])).pat false, (l.getD (2 * j + 1) (.node 0 0 [])).pat true⟩
def rulesOf (l : List RawP) (ns : List Int) : List RuleP := (List.range (min (l.length / 2) 4)).map (ruleOf l ns)
theorem few_mem {l : List RawP} (h : sizeR 6 l <= 30) {x : RawP} (hx : x ∈ l) : FewR 5 x /\ 1 + sizeR 5 x.l <= 30 := by
 obtain ⟨f, e, hs⟩ := sizeR_few h
 obtain rfl : f = 5 := by omega
 have := sumR_mem (f := 5) hx
 unfold FewR
 omega
theorem few_get {l : List RawP} (h : sizeR 6 l <= 30) {i : Nat} (hi : i < l.length) : FewR 5 (l.getD i (.node 0 0 [])) /\ 1 + sizeR 5 (l.getD i (.node 0 0 [])).l <= 30 := by
 rw [List.getD_eq_getElem?_getD, List.getElem?_eq_getElem hi]
 exact few_mem h (List.getElem_mem hi)
theorem rulesOf_mem {l : List RawP} {ns : List Int} {r : RuleP} (h : r ∈ rulesOf l ns) : ∃ j, 2 * j + 1 < l.length /\ r = ruleOf l ns j := by
 obtain ⟨j, hj, rfl⟩ := List.mem_map.1 h
 rw [List.mem_range] at hj
 exact ⟨j, by omega, rfl⟩
theorem rulesOf_ok {l : List RawP} (h : sizeR 6 l <= 30) (ns ds : List Int) : ∀ r ∈ rulesOf l ns, r.Ok ((defsOf ds).map DefP.name) := by
 intro r hr
 obtain ⟨j, hj, rfl⟩ := rulesOf_mem hr
 have a := RawP.ok (defsOf_mem ds) false 5 _ (few_get h (i := 2 * j) (by omega)).1
 have b := RawP.ok (defsOf_mem ds) true 5 _ (few_get h (i := 2 * j + 1) (by omega)).1
 exact ⟨by show ruleN ns j % 3 <= 2; omega, by show ruleN ns j / 3 % 20 <= 1000000; omega, a.1, by have := a.2; show _ <= 12; exact Nat.le_trans this (by decide), b.1, Nat.le_trans b.2 (by decide)⟩
theorem rulesOf_len (l : List RawP) (ns : List Int) : (rulesOf l ns).length <= 4 := by simp [rulesOf]; omega
theorem dec_len2 (n : Nat) (h : n < 100) : (Lib.decDigits n).length <= 2 := by
 by_cases h1 : n < 10
 ·rw [dec_len1 n h1]; omega
 ·rw [dec_big' h1, List.length_append, dec_len1 (n / 10) (by omega)]; simp
theorem catW_len (c : Nat) : (catW c).length <= 9 := by
 unfold catW
 split
 . decide
 . split <;> decide
theorem rulesText_le_ (m : Nat) (rs : List RuleP) (h : ∀ r ∈ rs, r.text.length <= m) : (rulesText rs).length <= rs.length * m := by
 induction rs with
 | nil => simp [rulesText]
 | cons r rs ih =>
   have a := h r (List.mem_cons_self ..)
   have b := ih fun x hx => h x (List.mem_cons_of_mem _ hx)
   simp only [rulesText, List.length_append, List.length_cons, Nat.succ_mul]
   omega
theorem rulesOf_text {l : List RawP} (h : sizeR 6 l <= 30) (ns : List Int) : (rulesText (rulesOf l ns)).length <= 2400 := by
 have hl := rulesOf_len l ns
 refine Nat.le_trans (rulesText_le_ 600 _ fun r hr => ?_) (by omega)
 obtain ⟨j, hj, rfl⟩ := rulesOf_mem hr
 have a := few_get h (i := 2 * j) (by omega)
 have b := few_get h (i := 2 * j + 1) (by omega)
 have a1 := RawP.len false 5 _ a.1
 have b1 := RawP.len true 5 _ b.1
 have c1 := catW_len (ruleN ns j % 3)
 have d1 := dec_len2 (ruleN ns j / 3 % 20) (by omega)
 simp only [ruleOf, RuleP.text, List.length_append, List.length_cons, List.length_nil]
 omega
theorem fileOf_text {l : List RawP} (h : sizeR 6 l <= 30) (ns ds : List Int) : (defsText (defsOf ds) ++ rulesText (rulesOf l ns)).length <= 3376 := by
 have := defsOf_text ds
 have := rulesOf_text h ns
 rw [List.length_append]; omega
end Go.Proofs.YtalgnnidhnhciaaGreatDoor
set_option linter.unusedVariables false
set_option linter.unusedSimpArgs false
namespace Go.Proofs.YtalgnnidhnhciaaGreatDoor
open Go Go.ChangeShapes Go.RowKit
mutual
def RawAt (w : World) (b o : Nat) : RawP -> Prop
 | .node k n l => ∃ (A : Option Addr) (m c : Nat), CellsAt w b o [.int .i64 k, .int .i64 n, .slice A m c] /\ (Lit.int .i64 k).wf = true /\ (Lit.int .i64 n).wf = true /\ l.length = m /\ m <= c /\ c <= maxLen /\ (A = none -> c = 0) /\
   (0 < m -> ∃ g o', A = some ⟨g, o', none⟩ /\ RawsAt w g o' l)
def RawsAt (w : World) (b o : Nat) : List RawP -> Prop
 | [] => True
 | x :: xs => RawAt w b o x /\ RawsAt w b (o + 3) xs
end
def RawL (w : World) (v : Value) (l : List RawP) : Prop :=
 ∃ (A : Option Addr) (m c : Nat), v = .slice A m c /\ l.length = m /\ m <= c /\ c <= maxLen /\ (A = none -> c = 0) /\ (0 < m -> ∃ g o, A = some ⟨g, o, none⟩ /\ RawsAt w g o l)
mutual
theorem RawAt.keep {w w' : World} (hk : ∀ g i x, w.cell? ⟨g, i, none⟩ = some x -> w'.cell? ⟨g, i, none⟩ = some x) : ∀ (x : RawP) (b o : Nat), RawAt w b o x -> RawAt w' b o x
 | .node k n l, b, o, h => by
   rw [RawAt] at h ⊢
   obtain ⟨A, m, c, h1, h2, h3, h4, h5, h6, h7, h8⟩ := h
   refine ⟨A, m, c, h1.keep (hk b), h2, h3, h4, h5, h6, h7, fun hm => ?_⟩
   obtain ⟨g, o', e, hr⟩ := h8 hm
   exact ⟨g, o', e, RawsAt.keep hk l g o' hr⟩
theorem RawsAt.keep {w w' : World} (hk : ∀ g i x, w.cell? ⟨g, i, none⟩ = some x -> w'.cell? ⟨g, i, none⟩ = some x) : ∀ (l : List RawP) (b o : Nat), RawsAt w b o l -> RawsAt w' b o l
 | [], _, _, _ => by rw [RawsAt]; trivial
 | x :: xs, b, o, h => by
   rw [RawsAt] at h ⊢
   exact ⟨RawAt.keep hk x b o h.1, RawsAt.keep hk xs b (o + 3) h.2⟩
end
theorem RawL.keep {w w' : World} {v : Value} {l : List RawP} (h : RawL w v l) (hk : ∀ g i x, w.cell? ⟨g, i, none⟩ = some x -> w'.cell? ⟨g, i, none⟩ = some x) : RawL w' v l := by
 obtain ⟨A, m, c, h1, h2, h3, h4, h5, h6⟩ := h
 refine ⟨A, m, c, h1, h2, h3, h4, h5, fun hm => ?_⟩
 obtain ⟨g, o', e, hr⟩ := h6 hm
 exact ⟨g, o', e, RawsAt.keep hk l g o' hr⟩
theorem RawL.below {w w' : World} {v : Value} {l : List RawP} (h : RawL w v l) (hb : Below w.heap.size w w') : RawL w' v l :=
 h.keep fun g i x hx => by rw [hb.cell (p := ⟨g, i, none⟩) (World.block_lt_of_cell? w _ hx)]; exact hx
theorem RawsAt.at_ {w : World} {b : Nat} : ∀ (l : List RawP) (o i : Nat) (x : RawP), RawsAt w b o l -> l[i]? = some x -> RawAt w b (o + i * 3) x
 | [], _, _, _, _, h => by simp at h
 | y :: l, o, 0, x, hr, h => by
   rw [RawsAt] at hr
   obtain rfl : y = x := by simpa using h
   simpa using hr.1
 | y :: l, o, i + 1, x, hr, h => by
   rw [RawsAt] at hr
   have := RawsAt.at_ l (o + 3) i x hr.2 (by simpa using h)
   rw [show o + (i + 1) * 3 = o + 3 + i * 3 by omega]; exact this
theorem RawsAt.mk_ {w : World} {b : Nat} : ∀ (l : List RawP) (o : Nat), (∀ i x, l[i]? = some x -> RawAt w b (o + i * 3) x) -> RawsAt w b o l
 | [], _, _ => by rw [RawsAt]; trivial
 | y :: l, o, h => by
   rw [RawsAt]
   refine ⟨by simpa using h 0 y rfl, RawsAt.mk_ l (o + 3) fun i x hx => ?_⟩
   have := h (i + 1) x (by simpa using hx)
   rw [show o + (i + 1) * 3 = o + 3 + i * 3 by omega] at this; exact this
theorem RawAt.cells {w : World} {b o : Nat} {x : RawP} (h : RawAt w b o x) : ∃ v, CellsAt w b o [.int .i64 x.k, .int .i64 x.n, v] /\ (Lit.int .i64 x.k).wf = true /\ (Lit.int .i64 x.n).wf = true /\ RawL w v x.l := by
 obtain ⟨k, n, l⟩ := x
 rw [RawAt] at h
 obtain ⟨A, m, c, h1, h2, h3, h4, h5, h6, h7, h8⟩ := h
 exact ⟨_, h1, h2, h3, A, m, c, rfl, h4, h5, h6, h7, h8⟩
theorem RawL.get {w : World} {v : Value} {l : List RawP} (h : RawL w v l) {i : Nat} (hi : i < l.length) : ∃ g o m c u, v = .slice (some ⟨g, o, none⟩) m c /\ l.length = m /\ m <= c /\ c <= maxLen /\ CellsAt w g (o + i * 3) [.int .i64 (l[i]).k, .int .i64 (l[i]).n, u] /\ (Lit.int .i64 (l[i]).k).wf = true /\ (Lit.int .i64 (l[i]).n).wf = true /\ RawL w u (l[i]).l := by
 obtain ⟨A, m, c, rfl, h2, h3, h4, h5, h6⟩ := h
 obtain ⟨g, o, rfl, hr⟩ := h6 (by omega)
 obtain ⟨u, h7, h8, h9, h10⟩ := (RawsAt.at_ l o i l[i] hr (List.getElem?_eq_getElem hi)).cells
 exact ⟨g, o, m, c, u, rfl, h2, h3, h4, h7, h8, h9, h10⟩
section
variable {H : Type} {enc : TypeId × Value -> H} {w : World} {base : Nat} {spare : Nat -> Bool} {held : Bool}
theorem open_raws : ∀ (fuel : Nat) (cs : List Value) (x : DataW H × List MemPlace), DataW.trod enc Tryz.prog w base spare held fuel 41 cs = some x -> ∃ v l, cs = [v] /\ RawL w v l := by
 intro fuel
 induction fuel using Nat.strongRecOn with
 | _ fuel ih =>
   intro cs x h
   have cI : Tryz.prog.cellsOf 3 = 1 := by kernel_rfl
   have cL : Tryz.prog.cellsOf 41 = 1 := by kernel_rfl
   have cR : Tryz.prog.cellsOf 48 = 3 := by kernel_rfl
   rcases DataW.trod_slice Tryz.underlying41 h with ⟨rfl, -⟩ | ⟨a, len, cap, elems, rest, n, hn, rfl, -, -, hl, hm, hel, hi, -, -⟩
   ·exact ⟨_, [], rfl, none, 0, 0, rfl, rfl, Nat.le_refl _, Nat.zero_le _, fun _ => rfl, (fun h => by omega)⟩
   ·have hsp : 0 < len -> a.spot = none := by
     intro hp
     have h1 := hi 0 hp
     rw [List.getElem?_eq_getElem (by omega), Option.bind_eq_some_iff, cR] at h1
     obtain ⟨c3, hc, -⟩ := h1
     obtain ⟨_, hcl, hat⟩ := World.cells?_some hc
     have h0 := hat 0 (by omega)
     rw [List.getElem?_eq_getElem (by omega)] at h0
     have h0' : w.cell? a = some (c3[0]'(by omega)) := by simpa [Addr.add] using h0
     cases hs : a.spot with
     | none => rfl
     | some q =>
       unfold World.cell? at h0'
       split at h0'
       ·simp [hs] at h0'
       ·cases h0'
    have key : ∀ i, i < len -> ∃ y : RawP, a.spot = none /\ RawAt w a.block (a.off + i * 3) y := by
     intro i hil
     have h1 := hi i hil
     rw [List.getElem?_eq_getElem (by omega), Option.bind_eq_some_iff, cR] at h1
     obtain ⟨c3, hc, ht⟩ := h1
     obtain ⟨_, hcl, hat⟩ := World.cells?_some hc
     obtain ⟨ys, n', hn', -, -, hyl, hf⟩ := DataW.trod_struct Tryz.underlying48 ht
     match c3, hcl with
     | [u0, u1, u2], _ =>
       have f0 : DataW.trod enc Tryz.prog w base spare held n' 3 (([u0, u1, u2].drop 0).take (Tryz.prog.cellsOf 3)) = ys[0]? := hf 0 _ rfl
       have f1 : DataW.trod enc Tryz.prog w base spare held n' 3 (([u0, u1, u2].drop 1).take (Tryz.prog.cellsOf 3)) = ys[1]? := hf 1 _ rfl
       have f2 : DataW.trod enc Tryz.prog w base spare held n' 41 (([u0, u1, u2].drop 2).take (Tryz.prog.cellsOf 41)) = ys[2]? := hf 2 _ rfl
       have l3 : ys.length = 3 := hyl
       rw [cI] at f0 f1
       rw [cL] at f2
       simp only [List.drop_zero, List.drop_succ_cons, List.take_succ_cons, List.take_zero] at f0 f1 f2
       rw [List.getElem?_eq_getElem (by omega)] at f0 f1 f2
       obtain ⟨k, e0, -, w0⟩ := DataW.trod_int Tryz.underlying3 f0
       obtain ⟨n0, e1, -, w1⟩ := DataW.trod_int Tryz.underlying3 f1
       obtain ⟨v, l, e2, A, m, c, rfl, g2, g3, g4, g5, g6⟩ := ih n' (by omega) _ _ f2
       obtain rfl : u0 = .int .i64 k := by simpa using e0
       obtain rfl : u1 = .int .i64 n0 := by simpa using e1
       obtain rfl : u2 = .slice A m c := by simpa using e2
       refine ⟨.node k n0 l, hsp (by omega), ?_⟩
       rw [RawAt]
       refine ⟨A, m, c, fun j u hj => ?_, w0, w1, g2, g3, g4, g5, g6⟩
       have hj3 : j < 3 := by
        have := (List.getElem?_eq_some_iff.1 hj).1
        simpa using this
       have := hat j hj3
       rw [hj] at this
       rw [<- this]
       obtain ⟨b, o, q⟩ := a
       obtain rfl : q = none := hsp (by omega)
       rw [Addr.add_add, Addr.add_mid, Nat.add_assoc]
    have hch : ∃ f : Nat -> RawP, ∀ i, i < len -> a.spot = none /\ RawAt w a.block (a.off + i * 3) (f i) := by
     refine ⟨fun i => if h : i < len then (key i h).choose else .node 0 0 [], fun i h => ?_⟩
     simp only [dif_pos h]
     exact (key i h).choose_spec
    obtain ⟨f, hf⟩ := hch
    refine ⟨_, (List.range len).map f, rfl, some a, len, cap, rfl, by simp, hl, hm, (fun e => by cases e), fun hp => ?_⟩
    have hs := (hf 0 hp).1
    obtain ⟨b, o, q⟩ := a
    obtain rfl : q = none := hs
    refine ⟨b, o, rfl, RawsAt.mk_ _ _ fun i x hx => ?_⟩
    rw [List.getElem?_map] at hx
    by_cases hil : i < len
    ·rw [List.getElem?_range hil] at hx
     obtain rfl : f i = x := by simpa using hx
     exact (hf i hil).2
    ·rw [List.getElem?_eq_none (by simpa using hil)] at hx
     simp at hx
end
end Go.Proofs.YtalgnnidhnhciaaGreatDoor
set_option linter.unusedVariables false
set_option linter.unusedSimpArgs false
namespace Go.Proofs.YtalgnnidhnhciaaGreatDoor
open Go Go.RowKit Go.Proofs
theorem wthN_eq (x n : Int) (hn : 0 < n) : ((wthN x n : Nat) : Int) = if x.tmod n < 0 then x.tmod n + n else x.tmod n := by
 have h1 := Int.tmod_lt_of_pos x hn
 have h2 : -n < x.tmod n := by
  have := Int.tmod_lt_of_pos (-x) hn
  rw [Int.neg_tmod] at this
  omega
 unfold wthN
 split <;> omega
theorem wth_any (x n : Int) (hn : 0 < n) (hn2 : n <= 1099511627776) (w : World) :
  Calls Tryz.prog 15 #[.int .i64 x, .int .i64 n] w fun e w' => e = .returned (.int .i64 (wthN x n : Nat)) /\ w = w' := by
  have h1 := Int.tmod_lt_of_pos x hn
  have h2 : -n < x.tmod n := by
   have := Int.tmod_lt_of_pos (-x) hn
   rw [Int.neg_tmod] at this
   omega
  have E := Lib.hid (wthN_eq x n hn)
  have hne : ¬ n = 0 := by omega
  go_enter Tryz.func15, Tryz.ntmps15
  by_cases hlt : x.tmod n < 0
  ·go_wp2_with fail
   go_ret
   exact ⟨by rw [E.out, if_pos hlt]; rfl, rfl⟩
  ·go_wp2_with fail
   go_ret
   exact ⟨by rw [E.out, if_neg (by omega)]; rfl, rfl⟩
def namesA : Array Value := #[.string ⟨#[97]⟩, .string ⟨#[118]⟩, .string ⟨#[100]⟩, .string ⟨#[115]⟩, .string ⟨#[119, 49]⟩, .string ⟨#[111, 116, 104, 101, 114]⟩]
theorem names_any (w : World) : Calls Tryz.prog 29 #[] w fun e w' => e = .returned (.slice (some ⟨w.heap.size, 0, none⟩) 6 6) /\ w' = w.alloc (.cells namesA 9) := by
 unfold namesA
 go_enter Tryz.func29, Tryz.ntmps29
 go_wp2_with fail
 go_ret
 exact ⟨rfl, rfl⟩
theorem foldR_le (f : Nat) (M : Nat) (hM : 30 <= M) (hs : ∀ l, 30 + 1 + sizeR f l <= M) : ∀ (l : List RawP) (n : Nat), n <= M -> foldR f n l <= M := by
 intro l
 induction l with
 | nil => intro n h; exact h
 | cons x l ih =>
   intro n h
   show foldR f (if n <= 30 then n + 1 + sizeR f x.l else n) l <= M
   refine ih _ ?_
   have := hs x.l
   split <;> omega
theorem sizeR_le : ∀ (f : Nat) (l : List RawP), sizeR f l <= 1000 + 31 * f := by
 intro f
 induction f with
 | zero => intro l; simp [sizeR]
 | succ f ih =>
   intro l
   rw [sizeR_succ]
   exact foldR_le f _ (by omega) (fun l => by have := ih l; omega) l 0 (by omega)
theorem foldR_take (f : Nat) (l : List RawP) (i : Nat) (hi : i < l.length) (n : Nat) : foldR f n (l.take (i + 1)) = if foldR f n (l.take i) <= 30 then foldR f n (l.take i) + 1 + sizeR f (l[i]).l else foldR f n (l.take i) := by
 rw [List.take_succ_eq_append_getElem hi]
 unfold foldR
 rw [List.foldl_append]
 rfl
theorem foldR_done (f : Nat) (l : List RawP) (i : Nat) (n : Nat) (h : 30 < foldR f n (l.take i)) : foldR f n l = foldR f n (l.take i) := by
 conv => lhs; rw [<- List.take_append_drop i l]
 unfold foldR at h ⊢
 rw [List.foldl_append]
 exact foldR_stop f _ _ h
theorem CellsAt.at3 {w : World} {b o : Nat} {x y z : Value} (h : CellsAt w b o [x, y, z]) : w.cell? ⟨b, o, none⟩ = some x /\ w.cell? ⟨b, o + 1, none⟩ = some y /\ w.cell? ⟨b, o + 2, none⟩ = some z := ⟨h 0 x rfl, h 1 y rfl, h 2 z rfl⟩
theorem size_any : ∀ (f : Nat) (l : List RawP) (w : World) (v : Value) (d : Int), d = 6 - (f : Int) -> f <= 6 -> RawL w v l ->
  Calls Tryz.prog 34 #[v, .int .i64 d] w fun e w' => e = .returned (.int .i64 (sizeR f l : Nat)) /\ w = w' := by
  intro f
  induction f with
  | zero =>
    intro l w v d hd _ h
    obtain rfl : d = 6 := by omega
    obtain ⟨A, m, c, rfl, -⟩ := h
    clear hd
    go_enter Tryz.func34, Tryz.ntmps34
    go_wp2_with fail
    go_ret
    exact ⟨rfl, rfl⟩
  | succ f ih =>
    intro l w v d hd hf h
    have h0 := h
    obtain ⟨A, m, c, rfl, hm, hmc, hc, hA, hr⟩ := h
    unfold maxLen at hc
    have hd1 : ¬ 5 < d := by omega
    have hd2 : d + 1 = 6 - (f : Int) := by omega
    have hd3 : -10 <= d /\ d <= 6 := by omega
    obtain ⟨hd4, hd5⟩ := hd3
    have IH := Lib.hid ih; have H0 := Lib.hid h0; have HD := Lib.hid hd2; have HM := Lib.hid hm
    clear ih h0 hd hd2 hr hm hA
    go_enter Tryz.func34, Tryz.ntmps34
    go_wp2_with fail
    go_loopg [5, 6] m (fun gk vn vi wr => ∃ (i n : Nat), vi = .int .i64 i /\ vn = .int .i64 n /\ gk = m - i /\ i <= m /\ Hid (n = foldR f 0 (l.take i)) /\ n <= 1300 /\ w = wr)
    case atStart => exact ⟨0, 0, rfl, rfl, rfl, Nat.zero_le _, Lib.hid rfl, by omega, rfl⟩
    case round =>
     obtain ⟨i, n, rfl, rfl, hgk, hi, HN, hn, rfl⟩ := hrel
     have HGK := Lib.hid hgk; clear hgk
     have i0 : (0 : Int) <= (i : Int) := Int.natCast_nonneg _
     have n0 : (0 : Int) <= (n : Int) := Int.natCast_nonneg _
     by_cases hlt : i < m
     ·have i1 : (i : Int) < (m : Int) := by omega
      by_cases h30 : n <= 30
      ·have n1 : (n : Int) <= 30 := by omega
       have hil : i < l.length := by rw [HM.out]; exact hlt
       obtain ⟨g, o, m', c', u, e, -, -, -, hcs, -, -, hu⟩ := H0.out.get hil
       injection e with e1 e2 e3
       subst e1; subst e2; subst e3
       have c2 := hcs.at3.2.2
       have hu0 := hu
       obtain ⟨A2, m2, c2', rfl, -⟩ := hu
       have hs := sizeR_le f (l[i]).l
       have hco := IH.out (l[i]).l w _ (d + 1) HD.out (by omega) hu0
       have hnx : n + 1 + sizeR f (l[i]).l = foldR f 0 (l.take (i + 1)) := by rw [foldR_take f l i hil, <- HN.out, if_pos h30]
       obtain ⟨z, hz⟩ : ∃ z, sizeR f (l[i]).l = z := ⟨_, rfl⟩
       rw [hz] at hco hnx hs
       have z0 : (0 : Int) <= (z : Int) := Int.natCast_nonneg _
       have HCO := Lib.hid hco; have HNX := Lib.hid hnx
       clear hco hnx hcs hu0 hz
       go_wp2_with fail
       refine HCO.out.mono ?_
       rintro e W ⟨rfl, rfl⟩
       go_wp2_with fail
       go_roundg (m - (i + 1))
       case measure => have := HGK.out; omega
       case rel => exact ⟨i + 1, n + 1 + z, by go_num, by go_num, rfl, hlt, HNX, by omega, rfl⟩
      ·have hfin : sizeR (f + 1) l = n := by rw [sizeR_succ, foldR_done f l i 0 (by rw [<- HN.out]; omega), HN.out]
       obtain ⟨V, hV⟩ : ∃ V : Int, (n : Int) = V := ⟨_, rfl⟩
       have n1 : (31 : Int) <= V := by omega
       have nb : decide (V <= 30) = false := by simp; omega
       have HFIN := Lib.hid (show ((sizeR (f + 1) l : Nat) : Int) = V by rw [hfin, hV])
       rw [hV]
       clear hfin h30 hV n0
       go_wp2_with fail
       go_ret
       exact ⟨by rw [HFIN.out]; rfl, rfl⟩
     ·have hil : i = m := by omega
      subst hil
      have hfin : sizeR (f + 1) l = n := by rw [sizeR_succ, HN.out, List.take_of_length_le (by rw [HM.out]; exact Nat.le_refl _)]
      have HFIN := Lib.hid hfin; clear hfin
      go_wp2_with fail
      go_ret
      exact ⟨by rw [HFIN.out]; rfl, rfl⟩
def fewB (l : List RawP) : Bool := decide (sizeR 6 l <= 30)
theorem few_any (l : List RawP) (w : World) (v : Value) (h : RawL w v l) :
  Calls Tryz.prog 17 #[v] w fun e w' => e = .returned (.bool (fewB l)) /\ w = w' := by
  have hs := size_any 6 l w v 0 (by omega) (by omega) h
  obtain ⟨A, m, c, rfl, -⟩ := h
  have hb := sizeR_le 6 l
  have e : fewB l = decide (((sizeR 6 l : Nat) : Int) <= 30) := by unfold fewB; rw [decide_eq_decide]; omega
  obtain ⟨z, hz⟩ : ∃ z, sizeR 6 l = z := ⟨_, rfl⟩
  rw [hz] at hs e
  have HS := Lib.hid hs; have HE := Lib.hid e; clear hs e hz hb
  go_enter Tryz.func17, Tryz.ntmps17
  go_wp2_with fail
  refine HS.out.mono ?_
  rintro e W ⟨rfl, rfl⟩
  go_wp2_with fail
  go_ret
  exact ⟨by rw [HE.out]; rfl, rfl⟩
end Go.Proofs.YtalgnnidhnhciaaGreatDoor
set_option linter.unusedVariables false
set_option linter.unusedSimpArgs false
namespace Go.Proofs.YtalgnnidhnhciaaGreatDoor
open Go Go.RowKit Go.Proofs
abbrev put5 (W : World) (H : Nat) (a1 a2 a3 a4 a5 : Value) : World :=
 ((((W.setCell ⟨H, 0, none⟩ a1).setCell ⟨H, 1, none⟩ a2).setCell ⟨H, 2, none⟩ a3).setCell ⟨H, 3, none⟩ a4).setCell ⟨H, 4, none⟩ a5
abbrev put6 (W : World) (H : Nat) (a1 a2 a3 a4 a5 a6 : Value) : World := (put5 W H a1 a2 a3 a4 a5).setCell ⟨H, 5, none⟩ a6
theorem cell_far {W : World} {p : Addr} {u : Value} {g i : Nat} {x : Value} (h : W.cell? ⟨g, i, none⟩ = some x) (hne : g ≠ p.block) : (W.setCell p u).cell? ⟨g, i, none⟩ = some x := by
 have hb := Below.heap_setCell W p u g hne
 unfold World.cell? at h ⊢
 rw [hb]; exact h
theorem TreeV.far {r : Bool} {W : World} {S : Nat -> Prop} {v : Value} {t : Tree} (h : TreeV r W S v t) {p : Addr} (hp : ∀ g, S g -> g ≠ p.block) (u : Value) : TreeV r (W.setCell p u) S v t :=
 h.keep (fun _ h => h) fun g hg i x hx => cell_far hx (hp g hg)
theorem TreeV.put5_ {r : Bool} {W : World} {S : Nat -> Prop} {v : Value} {t : Tree} {H : Nat} (h : TreeV r W S v t) (hp : ∀ g, S g -> g ≠ H) (a1 a2 a3 a4 a5 : Value) : TreeV r (put5 W H a1 a2 a3 a4 a5) S v t :=
 ((((h.far (p := ⟨H, 0, none⟩) hp a1).far (p := ⟨H, 1, none⟩) hp a2).far (p := ⟨H, 2, none⟩) hp a3).far (p := ⟨H, 3, none⟩) hp a4).far (p := ⟨H, 4, none⟩) hp a5
theorem TreeV.put6_ {r : Bool} {W : World} {S : Nat -> Prop} {v : Value} {t : Tree} {H : Nat} (h : TreeV r W S v t) (hp : ∀ g, S g -> g ≠ H) (a1 a2 a3 a4 a5 a6 : Value) : TreeV r (put6 W H a1 a2 a3 a4 a5 a6) S v t :=
 (h.put5_ hp a1 a2 a3 a4 a5).far (p := ⟨H, 5, none⟩) hp a6
theorem below_put5 {B : Nat} {w W : World} (h : Below B w W) {H : Nat} (hH : B <= H) (a1 a2 a3 a4 a5 : Value) : Below B w (put5 W H a1 a2 a3 a4 a5) :=
 ((((h.setCell (p := ⟨H, 0, none⟩) hH a1).setCell (p := ⟨H, 1, none⟩) hH a2).setCell (p := ⟨H, 2, none⟩) hH a3).setCell (p := ⟨H, 3, none⟩) hH a4).setCell (p := ⟨H, 4, none⟩) hH a5
theorem below_put6 {B : Nat} {w W : World} (h : Below B w W) {H : Nat} (hH : B <= H) (a1 a2 a3 a4 a5 a6 : Value) : Below B w (put6 W H a1 a2 a3 a4 a5 a6) :=
 (below_put5 h hH a1 a2 a3 a4 a5).setCell (p := ⟨H, 5, none⟩) hH a6
theorem cellsAt_of_blk {W : World} {N : Nat} {T : TypeId} {cs : Array Value} (h : Blk W N T cs) (k : Nat) (l : List Value) (hl : ∀ i v, l[i]? = some v -> cs[k + i]? = some v) : CellsAt W N k l := fun i v hv => (Blk.cell h (k + i)).trans (hl i v hv)
theorem HeadV.lit5' {v : Value} (h : HeadV false v) : ∃ (k lo hi : Int) (s : ByteArray) (A : Option Addr) (n c : Nat), v = .agg #[.int .i64 k, .int .i64 lo, .int .i64 hi, .string s, .slice A n c] := by
 obtain ⟨k, lo, hi, wt, s, A, n, c, e⟩ := h
 exact ⟨k, lo, hi, s, A, n, c, e⟩
theorem HeadV.lit6' {v : Value} (h : HeadV true v) : ∃ (k lo hi wt : Int) (s : ByteArray) (A : Option Addr) (n c : Nat), v = .agg #[.int .i64 k, .int .i64 lo, .int .i64 hi, .int .i64 wt, .string s, .slice A n c] := by
 obtain ⟨k, lo, hi, wt, s, A, n, c, e⟩ := h
 exact ⟨k, lo, hi, wt, s, A, n, c, e⟩
theorem TreeV.one5 {W : World} {N : Nat} {T : TypeId} {S : Nat -> Prop} {k lo hi : Int} {nm : ByteArray} {A : Option Addr} {n c : Nat} {t : Tree} (K lo' hi' : Int) (h : Blk W N T #[.int .i64 k, .int .i64 lo, .int .i64 hi, .string nm, .slice A n c])
  (ht : TreeV false W S (.agg #[.int .i64 k, .int .i64 lo, .int .i64 hi, .string nm, .slice A n c]) t) (hN : S N) : TreeV false W S (.agg #[.int .i64 K, .int .i64 lo', .int .i64 hi', .string ⟨#[]⟩, .slice (some ⟨N, 0, none⟩) 1 1]) (.mk K lo' hi' 0 [] [t]) := by
  refine ⟨⟨#[]⟩, some ⟨N, 0, none⟩, 1, 1, rfl, rfl, fun _ => rfl, rfl, Nat.le_refl _, by unfold maxLen; omega, ⟨(fun e => by cases e), (fun _ _ _ e => by cases e; rfl)⟩, fun b' o' e _ => ?_⟩
  cases e
  refine ⟨hN, ?_⟩
  rw [TreesAt, TreesAt]
  exact ⟨TreeV.laid (k := k) (lo := lo) (hi := hi) (wt := 0) (s := nm) (A := A) (n := n) (c := c) ht (cellsAt_of_blk h 0 _ fun i v hv => by rw [<- hv]; simp [headC]), trivial⟩
theorem TreeV.two5 {W : World} {N : Nat} {T : TypeId} {S : Nat -> Prop} {k lo hi k1 lo1 hi1 : Int} {nm nm1 : ByteArray} {A A1 : Option Addr} {n c n1 c1 : Nat} {t t1 : Tree} (K : Int)
  (h : Blk W N T #[.int .i64 k, .int .i64 lo, .int .i64 hi, .string nm, .slice A n c, .int .i64 k1, .int .i64 lo1, .int .i64 hi1, .string nm1, .slice A1 n1 c1])
  (ht : TreeV false W S (.agg #[.int .i64 k, .int .i64 lo, .int .i64 hi, .string nm, .slice A n c]) t) (ht1 : TreeV false W S (.agg #[.int .i64 k1, .int .i64 lo1, .int .i64 hi1, .string nm1, .slice A1 n1 c1]) t1) (hN : S N) :
  TreeV false W S (.agg #[.int .i64 K, .int .i64 0, .int .i64 0, .string ⟨#[]⟩, .slice (some ⟨N, 0, none⟩) 2 2]) (.mk K 0 0 0 [] [t, t1]) := by
  refine ⟨⟨#[]⟩, some ⟨N, 0, none⟩, 2, 2, rfl, rfl, fun _ => rfl, rfl, Nat.le_refl _, by unfold maxLen; omega, ⟨(fun e => by cases e), (fun _ _ _ e => by cases e; rfl)⟩, fun b' o' e _ => ?_⟩
  cases e
  refine ⟨hN, ?_⟩
  rw [TreesAt, TreesAt, TreesAt]
  refine ⟨TreeV.laid (k := k) (lo := lo) (hi := hi) (wt := 0) (s := nm) (A := A) (n := n) (c := c) ht (cellsAt_of_blk h 0 _ fun i v hv => ?_), TreeV.laid (k := k1) (lo := lo1) (hi := hi1) (wt := 0) (s := nm1) (A := A1) (n := n1) (c := c1) ht1 (cellsAt_of_blk h 5 _ fun i v hv => ?_), trivial⟩
  ·have hi5 : i < 5 := by have := (List.getElem?_eq_some_iff.1 hv).1; simpa [headC] using this
   have : i = 0 \/ i = 1 \/ i = 2 \/ i = 3 \/ i = 4 := by omega
   rcases this with rfl | rfl | rfl | rfl | rfl <;> simpa [headC] using hv
  ·have hi5 : i < 5 := by have := (List.getElem?_eq_some_iff.1 hv).1; simpa [headC] using this
   have : i = 0 \/ i = 1 \/ i = 2 \/ i = 3 \/ i = 4 := by omega
   rcases this with rfl | rfl | rfl | rfl | rfl <;> simpa [headC] using hv
def NamesL (w : World) (v : Value) (D : List Bs) : Prop :=
 ∃ (A : Option Addr) (c : Nat), v = .slice A D.length c /\ D.length <= c /\ c <= maxLen /\ ∀ i, i < D.length -> ∃ g o, A = some ⟨g, o, none⟩ /\ ∃ s : ByteArray, s.data.toList = D.getD i [] /\ w.cell? ⟨g, o + i * 6, none⟩ = some (.string s)
theorem NamesL.below {w w' : World} {v : Value} {D : List Bs} (h : NamesL w v D) (hb : Below w.heap.size w w') : NamesL w' v D := by
 obtain ⟨A, c, h1, h2, h3, h4⟩ := h
 refine ⟨A, c, h1, h2, h3, fun i hi => ?_⟩
 obtain ⟨g, o, e, s, hs, hc⟩ := h4 i hi
 exact ⟨g, o, e, s, hs, by rw [hb.cell (p := ⟨g, o + i * 6, none⟩) (World.block_lt_of_cell? w _ hc)]; exact hc⟩
def MadeC (w : World) (p : Cls) (e : Ending) (w' : World) : Prop :=
 ∃ v, e = .returned v /\ HeadV false v /\ TreeV false w' (fun g => w.heap.size <= g) v p.tree /\ Below w.heap.size w w'
theorem MadeC.fin {w W : World} {p : Cls} {k lo hi : Int} {s : ByteArray} {A : Option Addr} {n c : Nat} (hb : Below w.heap.size w W) (ht : TreeV false W (fun g => w.heap.size < g) (.agg #[.int .i64 k, .int .i64 lo, .int .i64 hi, .string s, .slice A n c]) p.tree) :
  MadeC w p (.returned (.agg #[.int .i64 k, .int .i64 lo, .int .i64 hi, .string s, .slice A n c])) (put5 W w.heap.size (.int .i64 k) (.int .i64 lo) (.int .i64 hi) (.string s) (.slice A n c)) :=
  ⟨_, rfl, ⟨k, lo, hi, 0, s, A, n, c, rfl⟩, (ht.put5_ (fun g hg => Nat.ne_of_gt hg) _ _ _ _ _).keep (fun g hg => Nat.le_of_lt hg) (fun _ _ _ _ h => h), below_put5 hb (Nat.le_refl _) _ _ _ _ _⟩
theorem leaf5 {W : World} (S : Nat -> Prop) (k lo hi : Int) (s : ByteArray) : TreeV false W S (.agg #[.int .i64 k, .int .i64 lo, .int .i64 hi, .string s, .slice none 0 0]) (.mk k lo hi 0 s.data.toList []) := TreeV.leaf false W S k lo hi 0 s (fun _ => rfl)
theorem MadeC.leaf {w W : World} {p : Cls} {k lo hi : Int} {s : ByteArray} (hb : Below w.heap.size w W) (hp : p.tree = .mk k lo hi 0 s.data.toList []) :
  MadeC w p (.returned (.agg #[.int .i64 k, .int .i64 lo, .int .i64 hi, .string s, .slice none 0 0])) W :=
  ⟨_, rfl, ⟨k, lo, hi, 0, s, none, 0, 0, rfl⟩, by rw [hp]; exact leaf5 _ _ _ _ _, hb⟩
theorem ranged_any (lo hi : Nat) (w : World) : Calls Tryz.prog 28 #[.int .i64 lo, .int .i64 hi] w (MadeC w (.range lo hi)) := by
 go_enter Tryz.func28, Tryz.ntmps28
 go_wp2_with fail
 exact bodyPost_ret (v := .agg #[.int .i64 1, .int .i64 lo, .int .i64 hi, .string ⟨#[]⟩, .slice none 0 0]) (by simp [results, Tryz.results28, go_sem]) rfl (MadeC.leaf ((Below.refl _ _).alloc (Nat.le_refl _) _) rfl)
theorem wthN_nat (n m : Nat) : wthN (n : Int) (m : Int) = n % m := by
 unfold wthN
 have h : (n : Int).tmod (m : Int) = ((n % m : Nat) : Int) := by rw [Int.tmod_eq_emod_of_nonneg (Int.natCast_nonneg n)]; exact (Int.natCast_emod n m).symm
 rw [h, if_neg (by omega)]
 rfl
theorem class_low (n : Nat) (w : World) (A : Option Addr) (m c : Nat) (d : Int) (hd0 : 0 <= d) (hd4 : d <= 4) (hn : n <= 1099511627776) (hlow : n % 16 < 5 \/ 3 < d) :
  Calls Tryz.prog 30 #[.int .i64 n, .slice A m c, .int .i64 d] w (MadeC w (.range (n / 16 % 50 + 40) (n / 16 % 50 + 40 + n / 16 % 5))) := by
  obtain ⟨K, hK⟩ : ∃ K : Nat, n / 16 = K := ⟨_, rfl⟩
  have hK' : (n : Int) / 16 = (K : Int) := by omega
  obtain ⟨J, hJ⟩ : ∃ J : Nat, n % 16 = J := ⟨_, rfl⟩
  have hJ1 : J < 16 := by omega
  have hK1 : (K : Int) <= 1099511627776 := by omega
  have hK0 : (0 : Int) <= (K : Int) := by omega
  have wJ := fun w => wth_any (n : Int) 16 (by omega) (by omega) w
  rw [show ((16 : Int)) = ((16 : Nat) : Int) from rfl, wthN_nat, hJ] at wJ
  have n0 : (0 : Int) <= (n : Int) := by omega
  have n1 : (n : Int) <= 1099511627776 := by omega
  obtain ⟨Jv, hJv⟩ : ∃ Jv : Int, (J : Int) = Jv := ⟨_, rfl⟩
  rw [hJv] at wJ
  have j0 : (0 : Int) <= Jv := by omega
  obtain ⟨M, hM⟩ : ∃ M : Nat, K % 50 = M := ⟨_, rfl⟩
  obtain ⟨M5, hM5⟩ : ∃ M : Nat, K % 5 = M := ⟨_, rfl⟩
  have wM := fun w => wth_any (K : Int) 50 (by omega) (by omega) w
  rw [show ((50 : Int)) = ((50 : Nat) : Int) from rfl, wthN_nat, hM] at wM
  have hK5 : (K : Int) % 5 = (M5 : Int) := by omega
  have m0 : (0 : Int) <= (M : Int) := by omega
  have m1 : (M : Int) <= 50 := by omega
  have m50 : (0 : Int) <= (M5 : Int) := by omega
  have m51 : (M5 : Int) <= 5 := by omega
  rw [hK, hM, hM5]
  have hlow' : Jv < 5 \/ 3 < d := by omega
  have HWJ := Lib.hid wJ; have HWM := Lib.hid wM; have HK := Lib.hid hK'; have HK5 := Lib.hid hK5
  clear wJ wM hK' hK5 hK hJ hM hM5 hJ1 hJv hlow
  go_enter Tryz.func30, Tryz.ntmps30
  go_wp2_with fail
  refine (HWJ.out _).mono ?_
  rintro e W ⟨rfl, rfl⟩
  rw [HK.out]
  by_cases h5 : Jv < 5
  ·have b5 : decide (Jv < 5) = true := by simp; omega
   clear hlow'
   go_wp2_with fail
   refine (HWM.out _).mono ?_
   rintro e W ⟨rfl, rfl⟩
   go_wp2_with fail
   rw [HK5.out]
   exact bodyPost_ret (v := .agg #[.int .i64 1, .int .i64 ((M + 40 : Nat) : Int), .int .i64 ((M + 40 + M5 : Nat) : Int), .string ⟨#[]⟩, .slice none 0 0]) (by simp [results, Tryz.results30, go_sem]) rfl (MadeC.leaf ((Below.refl _ _).alloc (Nat.le_refl _) _) rfl)
  ·have b5 : decide (Jv < 5) = false := by simp; omega
   have d3 : 3 < d := by omega
   have b3 : decide (3 < d) = true := by simp; omega
   clear hlow'
   go_wp2_with fail
   refine (HWM.out _).mono ?_
   rintro e W ⟨rfl, rfl⟩
   go_wp2_with fail
   rw [HK5.out]
   exact bodyPost_ret (v := .agg #[.int .i64 1, .int .i64 ((M + 40 : Nat) : Int), .int .i64 ((M + 40 + M5 : Nat) : Int), .string ⟨#[]⟩, .slice none 0 0]) (by simp [results, Tryz.results30, go_sem]) rfl (MadeC.leaf ((Below.refl _ _).alloc (Nat.le_refl _) _) rfl)
theorem TreeV.al {r : Bool} {W : World} {S S' : Nat -> Prop} {v : Value} {t : Tree} (h : TreeV r W S v t) (hS : ∀ g, S g -> S' g) (o : Obj) : TreeV r (W.alloc o) S' v t :=
 h.keep hS fun g _ i x hx => by rw [World.cell?_alloc_past o _ _ (World.block_lt_of_cell? W _ hx)]; exact hx
theorem TreeV.bel {r : Bool} {W W' : World} {S S' : Nat -> Prop} {v : Value} {t : Tree} (h : TreeV r W S v t) (hS : ∀ g, S g -> S' g) (hb : Below W.heap.size W W') : TreeV r W' S' v t :=
 h.keep hS fun g _ i x hx => by rw [hb.cell (p := ⟨g, i, none⟩) (World.block_lt_of_cell? W _ hx)]; exact hx
theorem put5_alloc {W : World} {H : Nat} (hH : H < W.heap.size) (o : Obj) (a1 a2 a3 a4 a5 : Value) : put5 (W.alloc o) H a1 a2 a3 a4 a5 = (put5 W H a1 a2 a3 a4 a5).alloc o := by
 unfold put5
 rw [World.setCell_alloc_past o H 0 a1 hH, World.setCell_alloc_past o H 1 a2 (by simpa [World.setCell] using hH), World.setCell_alloc_past o H 2 a3 (by simpa [World.setCell] using hH), World.setCell_alloc_past o H 3 a4 (by simpa [World.setCell] using hH), World.setCell_alloc_past o H 4 a5 (by simpa [World.setCell] using hH)]
theorem range_is {p : Cls} {lo hi : Nat} (a : Int) {y : Int} (hp : p = .range lo hi) (ha : (lo : Int) = a) (h : (hi : Int) = y) : p.tree = .mk 1 a y 0 [] [] := by rw [hp, <- ha, <- h]; rfl
theorem class_any (D : List Bs) (hD0 : 0 < D.length) (hD1 : D.length <= 1000) : ∀ (f n : Nat) (w : World) (v : Value) (d : Int), d = 4 - (f : Int) -> f <= 4 -> n <= 1099511627776 -> NamesL w v D ->
  Calls Tryz.prog 30 #[.int .i64 n, v, .int .i64 d] w (MadeC w (clsOf D f n)) := by
  intro f
  induction f with
  | zero =>
    intro n w v d hd _ hn hN
    obtain ⟨A, c, rfl, hDc, hc, hcell⟩ := hN
    unfold clsOf
    exact class_low n w A _ c d (by omega) (by omega) hn (.inr (by omega))
  | succ f ih =>
    intro n w v d hd hf hn hN
    have hN0 := hN
    obtain ⟨A, c, rfl, hDc, hc, hcell⟩ := hN
    by_cases h5 : n % 16 < 5
    ·unfold clsOf
     rw [if_pos h5]
     exact class_low n w A _ c d (by omega) (by omega) hn (.inl h5)
    have hcl := clsOf.eq_2 D n f
    rw [if_neg h5, show f.succ = f + 1 from rfl] at hcl
    obtain ⟨K, hK⟩ : ∃ K : Nat, n / 16 = K := ⟨_, rfl⟩
    have hK' : (n : Int) / 16 = (K : Int) := by omega
    obtain ⟨J, hJ⟩ : ∃ J : Nat, n % 16 = J := ⟨_, rfl⟩
    have hJ1 : J < 16 := by omega
    have hK1 : (K : Int) <= 1099511627776 := by omega
    have hK0 : (0 : Int) <= (K : Int) := by omega
    have wJ := fun w => wth_any (n : Int) 16 (by omega) (by omega) w
    rw [show ((16 : Int)) = ((16 : Nat) : Int) from rfl, wthN_nat, hJ] at wJ
    have n0 : (0 : Int) <= (n : Int) := by omega
    have n1 : (n : Int) <= 1099511627776 := by omega
    obtain ⟨Jv, hJv⟩ : ∃ Jv : Int, (J : Int) = Jv := ⟨_, rfl⟩
    rw [hJv] at wJ
    have j0 : (0 : Int) <= Jv := by omega
    have ihd : d + 1 = 4 - (f : Int) := by omega
    have d0 : (0 : Int) <= d := by omega
    have d3 : d <= 3 := by omega
    have b3 : decide (3 < d) = false := by simp; omega
    have b5 : decide (Jv < 5) = false := by simp; omega
    have h5' : 5 <= Jv := by omega
    rw [hK, hJ] at hcl
    unfold maxLen at hc
    obtain ⟨m, hm⟩ : ∃ m, D.length = m := ⟨_, rfl⟩
    rw [hm] at hcell hDc hD0 hD1 hcl ⊢
    have hm0 : (0 : Int) < (m : Int) := by omega
    have hm1 : (m : Int) <= 1000 := by omega
    have HM := Lib.hid hm
    have HWJ := Lib.hid wJ; have HK := Lib.hid hK'; have HN := Lib.hid hN0; have IH := Lib.hid ih; have HCL := Lib.hid hcl; have HCE := Lib.hid hcell; have HD := Lib.hid ihd; have HJ := Lib.hid hJv; have HK16 := Lib.hid hK
    clear wJ hK' hN0 ih hcl hcell ihd hd hK hJ h5 hJv hm
    go_enter Tryz.func30, Tryz.ntmps30
    go_wp2_with fail
    refine (HWJ.out _).mono ?_
    rintro e W ⟨rfl, rfl⟩
    rw [HK.out]
    by_cases h6 : Jv < 6
    ·have b6 : decide (Jv < 6) = true := by simp; omega
     have wM := fun w => wth_any (K : Int) 1114112 (by omega) (by omega) w
     obtain ⟨M, hM⟩ : ∃ M : Nat, K % 1114112 = M := ⟨_, rfl⟩
     obtain ⟨M9, hM9⟩ : ∃ M : Nat, K % 9 = M := ⟨_, rfl⟩
     rw [show ((1114112 : Int)) = ((1114112 : Nat) : Int) from rfl, wthN_nat, hM] at wM
     have hc6 := HCL.out
     rw [if_pos (by have := HJ.out; omega), hM, hM9] at hc6
     have hK9 : (K : Int) % 9 = (M9 : Int) := by omega
     have m0 : (0 : Int) <= (M : Int) := by omega
     have m1 : (M : Int) <= 1114112 := by omega
     have m90 : (0 : Int) <= (M9 : Int) := by omega
     have m91 : (M9 : Int) <= 9 := by omega
     have HWM := Lib.hid wM; have HK9 := Lib.hid hK9; have HC6 := Lib.hid hc6
     clear wM hK9 hc6 hM hM9
     go_wp2_with fail
     refine (HWM.out _).mono ?_
     rintro e W ⟨rfl, rfl⟩
     by_cases hmn : M + M9 <= 1114111
     ·have q1 : (M : Int) + (K : Int) % 9 <= 1114111 := by have := HK9.out; omega
      have q2 : min ((M : Int) + (K : Int) % 9) 1114111 = (M : Int) + (K : Int) % 9 := by omega
      go_wp2_with fail
      have hk := HK9.out
      rw [hk]
      exact bodyPost_ret (v := .agg #[.int .i64 1, .int .i64 (M : Int), .int .i64 ((M : Int) + (M9 : Int)), .string ⟨#[]⟩, .slice none 0 0]) (by simp [results, Tryz.results30, go_sem]) rfl (MadeC.leaf ((Below.refl _ _).alloc (Nat.le_refl _) _) (range_is _ HC6.out rfl (by omega)))
     ·have q1 : 1114111 < (M : Int) + (K : Int) % 9 := by have := HK9.out; omega
      have q2 : min ((M : Int) + (K : Int) % 9) 1114111 = 1114111 := by omega
      go_wp2_with fail
      exact bodyPost_ret (v := .agg #[.int .i64 1, .int .i64 (M : Int), .int .i64 1114111, .string ⟨#[]⟩, .slice none 0 0]) (by simp [results, Tryz.results30, go_sem]) rfl (MadeC.leaf ((Below.refl _ _).alloc (Nat.le_refl _) _) (range_is _ HC6.out rfl (by omega)))
    ·have b6 : decide (Jv < 6) = false := by simp; omega
     have h6' : 6 <= Jv := by omega
     have hc6 := HCL.out
     rw [if_neg (by have := HJ.out; omega)] at hc6
     clear HCL h6
     by_cases h8 : Jv < 8
     ·have b8 : decide (Jv < 8) = true := by simp; omega
      rw [if_pos (by have := HJ.out; omega)] at hc6
      obtain ⟨M, hM⟩ : ∃ M : Nat, K % m = M := ⟨_, rfl⟩
      have hMm : M < m := by rw [<- hM]; exact Nat.mod_lt _ (by omega)
      have wM := fun w => wth_any (K : Int) (m : Int) (by omega) (by omega) w
      rw [wthN_nat, hM] at wM
      rw [hM] at hc6
      obtain ⟨g, o, rfl, s, hs, hcs⟩ := HCE.out M hMm
      rw [<- hs] at hc6
      have M0 : (0 : Int) <= (M : Int) := by omega
      have M1 : (M : Int) < (m : Int) := by omega
      have HWM := Lib.hid wM; have HC6 := Lib.hid hc6
      have hcs' : (w.alloc (.cells #[.int .i64 0, .int .i64 0, .int .i64 0, .string ⟨#[]⟩, .slice none 0 0] 35)).cell? ⟨g, o + M * 6, none⟩ = some (.string s) := by
       rw [World.cell?_alloc_past _ _ _ (World.block_lt_of_cell? w _ hcs)]; exact hcs
      clear wM hc6 hM hs HCE HN IH
      go_wp2_with fail
      refine (HWM.out _).mono ?_
      rintro e W ⟨rfl, rfl⟩
      go_wp2_with fail
      exact bodyPost_ret (v := .agg #[.int .i64 2, .int .i64 0, .int .i64 0, .string s, .slice none 0 0]) (by simp [results, Tryz.results30, go_sem]) rfl (MadeC.leaf ((Below.refl _ _).alloc (Nat.le_refl _) _) (by rw [HC6.out]; rfl))
     ·have b8 : decide (Jv < 8) = false := by simp; omega
      have h8' : 8 <= Jv := by omega
      rw [if_neg (by have := HJ.out; omega)] at hc6
      clear HCE h8
      by_cases h9 : Jv < 9
      ·have b9 : decide (Jv < 9) = true := by simp; omega
       rw [if_pos (by have := HJ.out; omega)] at hc6
       have HC6 := Lib.hid hc6
       clear hc6
       go_wp2_with fail
       exact bodyPost_ret (v := .agg #[.int .i64 3, .int .i64 0, .int .i64 0, .string ⟨#[]⟩, .slice none 0 0]) (by simp [results, Tryz.results30, go_sem]) rfl (MadeC.leaf ((Below.refl _ _).alloc (Nat.le_refl _) _) (by rw [HC6.out]; rfl))
      ·have b9 : decide (Jv < 9) = false := by simp; omega
       have h9' : 9 <= Jv := by omega
       rw [if_neg (by have := HJ.out; omega)] at hc6
       have hb0 : Below w.heap.size w (w.alloc (.cells #[.int .i64 0, .int .i64 0, .int .i64 0, .string ⟨#[]⟩, .slice none 0 0] 35)) := (Below.refl _ _).alloc (Nat.le_refl _) _
       have hx0 := Blk.new w 35 #[.int .i64 0, .int .i64 0, .int .i64 0, .string ⟨#[]⟩, .slice none 0 0]
       have hz0 : (w.alloc (.cells #[.int .i64 0, .int .i64 0, .int .i64 0, .string ⟨#[]⟩, .slice none 0 0] 35)).heap.size = w.heap.size + 1 := by simp
       have hn0 := HN.out.below hb0
       by_cases h10 : Jv < 10
       ·have b10 : decide (Jv < 10) = true := by simp; omega
        rw [if_pos (by have := HJ.out; omega)] at hc6
        have hco := IH.out K _ _ (d + 1) HD.out (by omega) (by omega) hn0
        rw [HM.out] at hco
        have HCO := Lib.hid hco; have HC6 := Lib.hid hc6; have HB0 := Lib.hid hb0; have HX0 := Lib.hid hx0; have HZ0 := Lib.hid hz0
        clear hco hc6 hb0 hx0 hz0 hn0 IH HN
        go_wp2_with fail
        refine HCO.out.mono ?_
        rintro e w2 ⟨v2, rfl, hh, ht, hb2⟩
        obtain ⟨k, lo, hi, nm, A2, n2, c2, rfl⟩ := hh.lit5'
        have hx2 := Blk.below HX0.out hb2 HX0.out.lt
        have r0 := Blk.cell hx2 0; have r1 := Blk.cell hx2 1; have r2 := Blk.cell hx2 2; have r3 := Blk.cell hx2 3; have r4 := Blk.cell hx2 4
        simp only [List.getElem?_toArray, List.getElem?_cons_zero, List.getElem?_cons_succ] at r0 r1 r2 r3 r4
        have fr := fun i => Blk.frozen hx2 i
        have hlt : w.heap.size < w2.heap.size := hx2.lt
        rw [HZ0.out] at ht
        have hb := HB0.out.trans (hb2.mono HB0.out.size)
        have hfin := MadeC.fin (w := w) (W := w2.alloc (.cells #[.int .i64 k, .int .i64 lo, .int .i64 hi, .string nm, .slice A2 n2 c2] 35)) (p := .not_ (clsOf D f K)) (k := 4) (lo := 0) (hi := 0) (s := ⟨#[]⟩) (A := some ⟨w2.heap.size, 0, none⟩) (n := 1) (c := 1) (hb.alloc hb.size _)
         (TreeV.one5 4 0 0 (Blk.new w2 _ _) (ht.al (fun g hg => by omega) _) hlt)
        rw [put5_alloc hlt, <- HC6.out] at hfin
        have HF := Lib.hid hfin
        clear hfin hb hx2 hb2 ht HB0 HX0 HZ0 hh
        go_wp2_with fail
        exact bodyPost_ret (v := .agg #[.int .i64 4, .int .i64 0, .int .i64 0, .string ⟨#[]⟩, .slice (some ⟨w2.heap.size, 0, none⟩) 1 1]) (by simp [results, Tryz.results30, go_sem, World.cell?_alloc_past, hlt, r0, r1, r2, r3, r4]) rfl HF.out
       ·have b10 : decide (Jv < 10) = false := by simp; omega
        have h10' : 10 <= Jv := by omega
        rw [if_neg (by have := HJ.out; omega)] at hc6
        obtain ⟨K3, hK3⟩ : ∃ x : Nat, K / 3 = x := ⟨_, rfl⟩
        obtain ⟨K48, hK48⟩ : ∃ x : Nat, K / 48 = x := ⟨_, rfl⟩
        have e3 : (K : Int) / 3 = (K3 : Int) := by omega
        have e48 : (K : Int) / 48 = (K48 : Int) := by omega
        rw [hK3, hK48] at hc6
        have hco := IH.out K3 _ _ (d + 1) HD.out (by omega) (by omega) hn0
        have hcp := fun W (hW : Below w.heap.size w W) => IH.out K48 W _ (d + 1) HD.out (by omega) (by omega) (HN.out.below hW)
        rw [HM.out] at hco hcp
        have E3 := Lib.hid e3; have E48 := Lib.hid e48
        have HCO := Lib.hid hco; have HCP := Lib.hid hcp; have HC6 := Lib.hid hc6; have HB0 := Lib.hid hb0; have HX0 := Lib.hid hx0; have HZ0 := Lib.hid hz0
        clear hco hcp hc6 hb0 hx0 hz0 hn0 IH HN e3 e48
        go_wp2_with fail
        rw [E3.out]
        refine HCO.out.mono ?_
        rintro e w2 ⟨v2, rfl, hh, ht, hb2⟩
        obtain ⟨k, lo, hi, nm, A2, n2, c2, rfl⟩ := hh.lit5'
        have hx2 := Blk.below HX0.out hb2 HX0.out.lt
        rw [HZ0.out] at ht
        have hb := HB0.out.trans (hb2.mono HB0.out.size)
        have HCQ := Lib.hid (HCP.out w2 hb); have HX2 := Lib.hid hx2; have HT := Lib.hid ht; have HB := Lib.hid hb
        clear HCO HCP hb2 hh hx2 ht hb
        go_wp2_with fail
        rw [E48.out]
        refine HCQ.out.mono ?_
        rintro e w3 ⟨v3, rfl, hh, ht3, hb3⟩
        obtain ⟨k1, lo1, hi1, nm1, A3, n3, c3, rfl⟩ := hh.lit5'
        have hx3 := Blk.below HX2.out hb3 HX2.out.lt
        have r0 := Blk.cell hx3 0; have r1 := Blk.cell hx3 1; have r2 := Blk.cell hx3 2; have r3 := Blk.cell hx3 3; have r4 := Blk.cell hx3 4
        simp only [List.getElem?_toArray, List.getElem?_cons_zero, List.getElem?_cons_succ] at r0 r1 r2 r3 r4
        have fr := fun i => Blk.frozen hx3 i
        have hlt : w.heap.size < w3.heap.size := hx3.lt
        have hlt2 : w.heap.size < w2.heap.size := HX2.out.lt
        have hb := HB.out.trans (hb3.mono HB.out.size)
        have ht2 := HT.out.bel (S' := fun g => w.heap.size < g) (fun g hg => by omega) hb3
        have hK3r : K % 3 = 0 \/ K % 3 = 1 \/ K % 3 = 2 := by omega
        have hfin : ∀ (p : Cls) (q : Int), p.tree = .mk q 0 0 0 [] [(clsOf D f K3).tree, (clsOf D f K48).tree] -> MadeC w p (.returned (.agg #[.int .i64 q, .int .i64 0, .int .i64 0, .string ⟨#[]⟩, .slice (some ⟨w3.heap.size, 0, none⟩) 2 2])) ((put5 w3 w.heap.size (.int .i64 q) (.int .i64 0) (.int .i64 0) (.string ⟨#[]⟩) (.slice (some ⟨w3.heap.size, 0, none⟩) 2 2)).alloc (.cells #[.int .i64 k, .int .i64 lo, .int .i64 hi, .string nm, .slice A2 n2 c2, .int .i64 k1, .int .i64 lo1, .int .i64 hi1, .string nm1, .slice A3 n3 c3] 35)) := by
         intro p q hp
         rw [<- put5_alloc hlt]
         refine MadeC.fin (hb.alloc hb.size _) ?_
         rw [hp]
         exact TreeV.two5 q (Blk.new w3 _ _) (ht2.al (fun g hg => hg) _) (ht3.al (fun g hg => by omega) _) hlt
        have HF := Lib.hid hfin
        clear hfin hb hx3 hb3 ht3 ht2 HB HX0 HX2 HZ0 hh HT HCQ
        rcases hK3r with h | h | h
        ·have e5 : (K : Int) % 3 = 0 := by omega
         have hc7 := HC6.out
         rw [if_pos h] at hc7
         have HC7 := Lib.hid hc7
         clear hc7 h HC6
         go_wp2_with fail
         exact bodyPost_ret (v := .agg #[.int .i64 5, .int .i64 0, .int .i64 0, .string ⟨#[]⟩, .slice (some ⟨w3.heap.size, 0, none⟩) 2 2]) (by simp [results, Tryz.results30, go_sem, World.cell?_alloc_past, hlt, r0, r1, r2, r3, r4]) rfl (HF.out _ 5 (by rw [HC7.out]; rfl))
        ·have e5 : (K : Int) % 3 = 1 := by omega
         have hc7 := HC6.out
         rw [if_neg (by omega), if_pos h] at hc7
         have HC7 := Lib.hid hc7
         clear hc7 h HC6
         go_wp2_with fail
         exact bodyPost_ret (v := .agg #[.int .i64 6, .int .i64 0, .int .i64 0, .string ⟨#[]⟩, .slice (some ⟨w3.heap.size, 0, none⟩) 2 2]) (by simp [results, Tryz.results30, go_sem, World.cell?_alloc_past, hlt, r0, r1, r2, r3, r4]) rfl (HF.out _ 6 (by rw [HC7.out]; rfl))
        ·have e5 : (K : Int) % 3 = 2 := by omega
         have hc7 := HC6.out
         rw [if_neg (by omega), if_neg (by omega)] at hc7
         have HC7 := Lib.hid hc7
         clear hc7 h HC6
         go_wp2_with fail
         exact bodyPost_ret (v := .agg #[.int .i64 7, .int .i64 0, .int .i64 0, .string ⟨#[]⟩, .slice (some ⟨w3.heap.size, 0, none⟩) 2 2]) (by simp [results, Tryz.results30, go_sem, World.cell?_alloc_past, hlt, r0, r1, r2, r3, r4]) rfl (HF.out _ 7 (by rw [HC7.out]; rfl))
end Go.Proofs.YtalgnnidhnhciaaGreatDoor
