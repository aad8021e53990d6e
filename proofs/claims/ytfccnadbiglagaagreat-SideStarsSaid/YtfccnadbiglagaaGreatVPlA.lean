/- Plain mathematics of rules as texts: the signs of a text, and the reader of sets and patterns over rows of signs. Patterns and sets as they are written, as rows of signs; a row of signs so written is read as it was. Patterns, sets and files as they are written, byte by byte; the signs of what was so written. Whole files: read as they were written, whatever stands between their signs. What the chapters' laws make of their arguments: patterns of raw ones, sets of numbers, files; plain mathematics. What the chapters' laws make of their arguments: sets of numbers, whole files; plain mathematics. -/
import Derived.Lib.Hide
import Derived.Lib.ItoaNum
set_option linter.unusedVariables false
set_option linter.unusedSimpArgs false
namespace Go.Proofs.YtfccnadbiglagaaGreat
abbrev Bs := List UInt8
inductive Tree where
 | mk (kind lo hi w : Int) (name : Bs) (l : List Tree)
def cRange (lo hi : Int) : Tree := .mk 1 lo hi 0 [] []
def cName (s : Bs) : Tree := .mk 2 0 0 0 s []
def cAny : Tree := .mk 3 0 0 0 [] []
def cNot (c : Tree) : Tree := .mk 4 0 0 0 [] [c]
def cTwo (k : Int) (a b : Tree) : Tree := .mk k 0 0 0 [] [a, b]
def rNone : Tree := .mk 1 0 0 0 [] []
def rSet (s : Bs) : Tree := .mk 2 0 0 0 s []
def rAny : Tree := .mk 3 0 0 0 [] []
def rTwo (k : Int) (a b : Tree) : Tree := .mk k 0 0 0 [] [a, b]
def rStar (a : Tree) : Tree := .mk 6 0 0 0 [] [a]
def rTimes (a : Tree) (lo hi : Int) : Tree := .mk 7 lo hi 0 [] [a]
def rWeight (a : Tree) (w : Int) : Tree := .mk 8 0 0 w [] [a]
def smallB (c : UInt8) : Bool := Nat.ble 97 c.toNat && Nat.ble c.toNat 122
def digB (c : UInt8) : Bool := Nat.ble 48 c.toNat && Nat.ble c.toNat 57
def wdB (c : UInt8) : Bool := smallB c || digB c
def hexB (c : UInt8) : Bool := digB c || (Nat.ble 65 c.toNat && Nat.ble c.toNat 70)
def hexV (c : UInt8) : Nat := if digB c then c.toNat - 48 else c.toNat - 55
def wAny : Bs := [97, 110, 121]
def wClass : Bs := [99, 108, 97, 115, 115]
def wEmergency : Bs := [101, 109, 101, 114, 103, 101, 110, 99, 121]
def wHyphen : Bs := [104, 121, 112, 104, 101, 110]
def wLine : Bs := [108, 105, 110, 101]
def wordK (w : Bs) : Nat := if w == wAny then 261 else if w == wClass then 262 else if w == wLine then 263 else if w == wHyphen then 264 else if w == wEmergency then 265 else 258
def markB (c : UInt8) : Bool := [123, 125, 40, 41, 61, 59, 58, 47, 124, 38, 33, 45, 42, 64, 46, 44, 63].contains c
def numOf (l : Bs) : Nat := l.foldl (fun n c => 10 * n + (c.toNat - 48)) 0
def hexOf (l : Bs) : Nat := l.foldl (fun n c => 16 * n + hexV c) 0
structure Sg where
 kind : Nat
 word : Bs
 n : Nat
 large : Bool
 size : Nat
def Sg.none : Sg := ⟨257, [], 0, false, 1⟩
def wordS (s : Bs) : Sg := ⟨wordK (s.takeWhile wdB), s.takeWhile wdB, 0, Nat.blt 12 (s.takeWhile wdB).length, (s.takeWhile wdB).length⟩
def digS (s : Bs) : Sg := ⟨259, [], numOf (s.takeWhile digB), Nat.blt 1000000 (numOf (s.takeWhile digB)), (s.takeWhile digB).length⟩
def quotS (s : Bs) : Sg :=
 match s with
 | _ :: x :: y :: _ => if Nat.ble 32 x.toNat && Nat.ble x.toNat 126 && y == 39 then ⟨260, [], x.toNat, false, 3⟩ else Sg.none
 | _ => Sg.none
def codeS (s : Bs) : Sg :=
 match s with
 | _ :: x :: h =>
   if x == 43 && !((h.take 6).takeWhile hexB).isEmpty then
    ⟨260, [], hexOf ((h.take 6).takeWhile hexB), Nat.blt 1114111 (hexOf ((h.take 6).takeWhile hexB)), 2 + ((h.take 6).takeWhile hexB).length⟩
   else Sg.none
 | _ => Sg.none
def lexS : Bs -> Sg
 | [] => ⟨256, [], 0, false, 0⟩
 | c :: r => if smallB c then wordS (c :: r) else if digB c then digS (c :: r) else if c == 39 then quotS (c :: r) else if c == 85 then codeS (c :: r) else if markB c then ⟨c.toNat, [], 0, false, 1⟩ else Sg.none
def skipB : Bool -> Bs -> Bs
 | _, [] => []
 | rem, c :: r => if c == 10 then skipB false r else if c == 35 then skipB true r else if c != 32 && !rem then c :: r else skipB rem r
structure Tok where
 kind : Nat
 word : Bs
 n : Nat
deriving DecidableEq
abbrev Toks := List Tok
def lexP : Nat -> Bs -> List (Tok × Nat)
 | 0, _ => [(⟨256, [], 0⟩, 0)]
 | f + 1, u =>
   let r := skipB false u
   let g := lexS r
   if g.kind == 256 then [(⟨256, [], 0⟩, 0)]
   else if g.kind == 257 then [(⟨257, [], 0⟩, r.length)]
   else if g.large then [(⟨266, [], 0⟩, r.length)]
   else (⟨g.kind, g.word, g.n⟩, r.length) :: lexP f (r.drop g.size)
abbrev Rd (α : Type) := Except (Nat × Toks) (α × Toks)
abbrev X := Except (Nat × Toks) Toks
def hd (ts : Toks) : Tok := ts.headD ⟨256, [], 0⟩
def kd (ts : Toks) : Nat := (hd ts).kind
def chk (ts : Toks) : X := if kd ts == 257 then .error (1, ts) else if kd ts == 266 then .error (2, ts) else .ok ts
def nxt (ts : Toks) : X := chk ts.tail
def X.on (x : X) (f : Toks -> X) : X := match x with | .ok ts => f ts | .error e => .error e
def X.into {α : Type} (x : X) (f : Toks -> Rd α) : Rd α := match x with | .ok ts => f ts | .error e => .error e
def X.give {α : Type} (x : X) (a : α) : Rd α := match x with | .ok ts => .ok (a, ts) | .error e => .error e
def Rd.then_ {α β : Type} (x : Rd α) (f : α -> Toks -> Rd β) : Rd β := match x with | .ok (a, ts) => f a ts | .error e => .error e
section
variable (F : Nat) (D : List Bs)
structure RuleT where
 cat : Int
 cost : Int
 left : Tree
 right : Tree
end
def lexT (t : Bs) : List (Tok × Nat) := lexP (t.length + 1) t
def posT (t : Bs) (k : Nat) : Nat := t.length - (((lexT t).drop ((lexT t).length - k)).headD (⟨256, [], 0⟩, 0)).2
end Go.Proofs.YtfccnadbiglagaaGreat
namespace Go.Proofs.YtfccnadbiglagaaGreat
inductive Pat where
 | none_ | set (s : Bs) | any_ | cat (a b : Pat) | alt (a b : Pat) | star (a : Pat) | times (a : Pat) (lo hi : Nat) | weight (a : Pat) (w : Nat)
inductive Cls where
 | range (lo hi : Nat) | name (s : Bs) | any_ | not_ (c : Cls) | or_ (a b : Cls) | and_ (a b : Cls) | less (a b : Cls)
def Pat.tree : Pat -> Tree
 | .none_ => rNone
 | .set s => rSet s
 | .any_ => rAny
 | .cat a b => rTwo 4 a.tree b.tree
 | .alt a b => rTwo 5 a.tree b.tree
 | .star a => rStar a.tree
 | .times a lo hi => rTimes a.tree lo hi
 | .weight a w => rWeight a.tree w
def Cls.tree : Cls -> Tree
 | .range lo hi => cRange lo hi
 | .name s => cName s
 | .any_ => cAny
 | .not_ c => cNot c.tree
 | .or_ a b => cTwo 5 a.tree b.tree
 | .and_ a b => cTwo 6 a.tree b.tree
 | .less a b => cTwo 7 a.tree b.tree
def Pat.atom : Pat -> Bool
 | .none_ => true | .set _ => true | .any_ => true | _ => false
def Cls.atom : Cls -> Bool
 | .range _ _ => true | .name _ => true | .any_ => true | _ => false
def mkT (c : Nat) : Tok := ⟨c, [], 0⟩
def num (n : Nat) : Tok := ⟨259, [], n⟩
def scl (n : Nat) : Tok := ⟨260, [], n⟩
def wrap (at_ : Bool) (l : Toks) : Toks := if at_ then l else mkT 40 :: (l ++ [mkT 41])
def more (at_ : Bool) (n : Nat) : Nat := if at_ then n else n + 1
def Pat.deep : Pat -> Nat
 | .none_ => 1 | .set _ => 0 | .any_ => 0
 | .cat a b => max (more a.atom a.deep) (more b.atom b.deep)
 | .alt a b => max (more a.atom a.deep) (more b.atom b.deep)
 | .star a => more a.atom a.deep
 | .times a _ _ => more a.atom a.deep
 | .weight a _ => more a.atom a.deep
def Cls.deep : Cls -> Nat
 | .range _ _ => 0 | .name _ => 0 | .any_ => 0
 | .not_ c => more c.atom c.deep + 1
 | .or_ a b => max (more a.atom a.deep) (more b.atom b.deep)
 | .and_ a b => max (more a.atom a.deep) (more b.atom b.deep)
 | .less a b => max (more a.atom a.deep) (more b.atom b.deep)
def Pat.Ok (D : List Bs) (wg : Bool) : Pat -> Prop
 | .none_ => True
 | .set s => s ∈ D
 | .any_ => True
 | .cat a b => a.Ok D wg /\ b.Ok D wg
 | .alt a b => a.Ok D wg /\ b.Ok D wg
 | .star a => a.Ok D wg
 | .times a lo hi => a.Ok D wg /\ lo <= hi /\ hi <= 12
 | .weight a w => a.Ok D wg /\ wg = true /\ w <= 1000000
def Cls.Ok (D : List Bs) : Cls -> Prop
 | .range lo hi => lo <= hi /\ hi <= 1114111
 | .name s => s ∈ D
 | .any_ => True
 | .not_ c => c.Ok D
 | .or_ a b => a.Ok D /\ b.Ok D
 | .and_ a b => a.Ok D /\ b.Ok D
 | .less a b => a.Ok D /\ b.Ok D
@[simp] theorem kd_cons (t : Tok) (ts : Toks) : kd (t :: ts) = t.kind := rfl
@[simp] theorem hd_cons (t : Tok) (ts : Toks) : hd (t :: ts) = t := rfl
@[simp] theorem nxt_cons (t : Tok) (ts : Toks) : nxt (t :: ts) = chk ts := rfl
def good (ts : Toks) : Prop := kd ts ≠ 257 /\ kd ts ≠ 266
theorem chk_good {ts : Toks} (h : good ts) : chk ts = .ok ts := by
 obtain ⟨h1, h2⟩ := h
 simp [chk, h1, h2]
theorem good_cons {t : Tok} {ts : Toks} (h1 : t.kind ≠ 257) (h2 : t.kind ≠ 266) : good (t :: ts) := ⟨h1, h2⟩
@[simp] theorem mkT_kind (c : Nat) : (mkT c).kind = c := rfl
@[simp] theorem num_kind (c : Nat) : (num c).kind = 259 := rfl
@[simp] theorem scl_kind (c : Nat) : (scl c).kind = 260 := rfl
@[simp] theorem num_n (c : Nat) : (num c).n = c := rfl
@[simp] theorem scl_n (c : Nat) : (scl c).n = c := rfl
@[simp] theorem on_ok (ts : Toks) (f : Toks -> X) : X.on (.ok ts) f = f ts := rfl
@[simp] theorem into_ok {α : Type} (ts : Toks) (f : Toks -> Rd α) : X.into (.ok ts) f = f ts := rfl
@[simp] theorem give_ok {α : Type} (ts : Toks) (a : α) : X.give (.ok ts) a = .ok (a, ts) := rfl
@[simp] theorem then_ok {α β : Type} (a : α) (ts : Toks) (f : α -> Toks -> Rd β) : Rd.then_ (.ok (a, ts)) f = f a ts := rfl
@[simp] theorem chk_mkT (c : Nat) (ts : Toks) (h1 : c ≠ 257) (h2 : c ≠ 266) : chk (mkT c :: ts) = .ok (mkT c :: ts) := chk_good (good_cons h1 h2)
@[simp] theorem chk_num (c : Nat) (ts : Toks) : chk (num c :: ts) = .ok (num c :: ts) := chk_good (good_cons (by simp) (by simp))
@[simp] theorem chk_scl (c : Nat) (ts : Toks) : chk (scl c :: ts) = .ok (scl c :: ts) := chk_good (good_cons (by simp) (by simp))
section
variable (F : Nat) (D : List Bs) (wg : Bool)
end
end Go.Proofs.YtfccnadbiglagaaGreat
namespace Go.Proofs.YtfccnadbiglagaaGreat
open Go
theorem skip_len (b : Bool) (u : Bs) : (skipB b u).length <= u.length := by
 induction u generalizing b with
 | nil => simp [skipB]
 | cons c r ih =>
   simp only [skipB]
   split
   ·exact Nat.le_trans (ih _) (by simp)
   ·split
    ·exact Nat.le_trans (ih _) (by simp)
    ·split
     ·simp
     ·exact Nat.le_trans (ih _) (by simp)
theorem takeWhile_pos (q : UInt8 -> Bool) (c : UInt8) (r : Bs) (h : q c = true) : 0 < ((c :: r).takeWhile q).length := by simp [List.takeWhile_cons, h]
theorem small_wd {c : UInt8} (h : smallB c = true) : wdB c = true := by simp [wdB, h]
theorem size_pos (u : Bs) (h1 : (lexS u).kind ≠ 256) (h2 : (lexS u).kind ≠ 257) : u ≠ [] /\ 0 < (lexS u).size := by
 cases u with
 | nil => simp [lexS] at h1
 | cons c r =>
   refine ⟨by simp, ?_⟩
   simp only [lexS] at h1 h2 ⊢
   split
   ·next h => exact takeWhile_pos _ _ _ (small_wd h)
   ·split
    ·next h => exact takeWhile_pos _ _ _ h
    ·split
     ·unfold quotS
      split
      ·split <;> simp [Sg.none]
      ·simp [Sg.none]
     ·split
      ·unfold codeS
       split
       ·split
        ·simp; omega
        ·simp [Sg.none]
       ·simp [Sg.none]
      ·split <;> simp [Sg.none]
theorem lexP_fuel : ∀ (f g : Nat) (u : Bs), u.length < f -> u.length < g -> lexP f u = lexP g u := by
 intro f
 induction f with
 | zero => intro g u h; omega
 | succ f ih =>
   intro g u h1 h2
   obtain ⟨g', rfl⟩ : ∃ g', g = g' + 1 := ⟨g - 1, by omega⟩
   simp only [lexP]
   by_cases a : (lexS (skipB false u)).kind = 256
   ·simp [a]
   by_cases b : (lexS (skipB false u)).kind = 257
   ·simp [b]
   by_cases c : (lexS (skipB false u)).large = true
   ·simp [c]
   have hp := size_pos _ a b
   have hl := skip_len false u
   have hpos : 0 < (skipB false u).length := List.length_pos_iff.2 hp.1
   have hd : ((skipB false u).drop (lexS (skipB false u)).size).length < u.length := by rw [List.length_drop]; omega
   simp only [beq_iff_eq, a, b, c, if_false, Bool.false_eq_true]
   rw [ih g' _ (by omega) (by omega)]
def toksT (u : Bs) : Toks := (lexT u).map Prod.fst
theorem lexT_skip {u v : Bs} (h : skipB false u = skipB false v) : lexT u = lexT v := by
 have e : ∀ (f : Nat), lexP (f + 1) u = lexP (f + 1) v := fun f => by simp only [lexP, h]
 unfold lexT
 rw [lexP_fuel (u.length + 1) (u.length + v.length + 1) u (by omega) (by omega), lexP_fuel (v.length + 1) (u.length + v.length + 1) v (by omega) (by omega), e]
theorem toksT_skip {u v : Bs} (h : skipB false u = skipB false v) : toksT u = toksT v := by unfold toksT; rw [lexT_skip h]
@[simp] theorem toksT_blank (u : Bs) : toksT (32 :: u) = toksT u := toksT_skip (by simp [skipB])
@[simp] theorem toksT_line (u : Bs) : toksT (10 :: u) = toksT u := toksT_skip (by simp [skipB])
theorem toksT_nil : toksT [] = [mkT 256] := by rfl
def wordOk (w : Bs) : Prop := (∃ c r, w = c :: r /\ smallB c = true) /\ (∀ c ∈ w, wdB c = true) /\ w.length <= 12
theorem dec_small' {u : Nat} (h : u < 10) : Lib.decDigits u = [UInt8.ofNat (48 + u)] := by rw [Lib.decDigits, dif_pos h]
def hexC (n : Nat) : UInt8 := if n < 10 then UInt8.ofNat (48 + n) else UInt8.ofNat (55 + n)
def hexDigits (u : Nat) : Bs := if h : u < 16 then [hexC u] else hexDigits (u / 16) ++ [hexC (u % 16)]
def within_ (at_ : Bool) (l : Bs) : Bs := if at_ then l else 40 :: (l ++ [41])
def Pat.text : Pat -> Bs
 | .none_ => [40, 41]
 | .set s => s
 | .any_ => wAny
 | .cat a b => within_ a.atom a.text ++ 32 :: within_ b.atom b.text
 | .alt a b => within_ a.atom a.text ++ 32 :: 124 :: 32 :: within_ b.atom b.text
 | .star a => within_ a.atom a.text ++ [42]
 | .times a lo hi => within_ a.atom a.text ++ 123 :: (Lib.decDigits lo ++ 44 :: (Lib.decDigits hi ++ [125]))
 | .weight a w => within_ a.atom a.text ++ 32 :: 64 :: 32 :: Lib.decDigits w
def Cls.text : Cls -> Bs
 | .range lo hi => 85 :: 43 :: (hexDigits lo ++ if lo = hi then [] else 46 :: 46 :: 85 :: 43 :: hexDigits hi)
 | .name s => s
 | .any_ => wAny
 | .not_ c => 33 :: within_ c.atom c.text
 | .or_ a b => within_ a.atom a.text ++ 32 :: 124 :: 32 :: within_ b.atom b.text
 | .and_ a b => within_ a.atom a.text ++ 32 :: 38 :: 32 :: within_ b.atom b.text
 | .less a b => within_ a.atom a.text ++ 32 :: 45 :: 32 :: within_ b.atom b.text
structure DefP where
 name : Bs
 c : Cls
structure RuleP where
 cat : Nat
 cost : Nat
 left : Pat
 right : Pat
def catW (c : Nat) : Bs := if c = 0 then wLine else if c = 1 then wHyphen else wEmergency
def DefP.text (d : DefP) : Bs := wClass ++ 32 :: (d.name ++ 32 :: 61 :: 32 :: (d.c.text ++ [59, 10]))
def RuleP.text (r : RuleP) : Bs := catW r.cat ++ 32 :: (Lib.decDigits r.cost ++ 32 :: 58 :: 32 :: (r.left.text ++ 32 :: 47 :: 32 :: (r.right.text ++ [59, 10])))
def nameOk (w : Bs) : Prop := wordOk w /\ wordK w = 258
section
variable {D : List Bs} (hD : ∀ s ∈ D, nameOk s)
end
end Go.Proofs.YtfccnadbiglagaaGreat
namespace Go.Proofs.YtfccnadbiglagaaGreat
open Go
def DefP.tree (d : DefP) : Bs × Tree := (d.name, d.c.tree)
def RuleP.tree (r : RuleP) : RuleT := ⟨r.cat, r.cost, r.left.tree, r.right.tree⟩
def DefP.Ok (D : List Bs) (d : DefP) : Prop := nameOk d.name /\ d.name ∉ D /\ d.c.Ok D /\ d.c.deep <= 12
def RuleP.Ok (D : List Bs) (r : RuleP) : Prop := r.cat <= 2 /\ r.cost <= 1000000 /\ r.left.Ok D true /\ r.left.deep <= 12 /\ r.right.Ok D false /\ r.right.deep <= 12
section
variable (F : Nat) (hF : 2 <= F)
include hF
end
end Go.Proofs.YtfccnadbiglagaaGreat
namespace Go.Proofs.YtfccnadbiglagaaGreat
open Go
def wthN (x n : Int) : Nat := (if x.tmod n < 0 then x.tmod n + n else x.tmod n).toNat
theorem wthN_lt (x : Int) (n : Nat) (hn : 0 < n) : wthN x n < n := by
 have h1 := Int.tmod_lt_of_pos x (show (0 : Int) < n by omega)
 have h2 : -(n : Int) < x.tmod n := by
  have := Int.tmod_lt_of_pos (-x) (show (0 : Int) < n by omega)
  rw [Int.neg_tmod] at this
  omega
 unfold wthN
 split <;> omega
inductive RawP where
 | node (k n : Int) (l : List RawP)
def RawP.k : RawP -> Int | .node k _ _ => k
def RawP.n : RawP -> Int | .node _ n _ => n
def RawP.l : RawP -> List RawP | .node _ _ l => l
def nmA : Bs := [97]
def nmV : Bs := [118]
def nmD : Bs := [100]
def nmS : Bs := [115]
def nmW : Bs := [119, 49]
def nmO : Bs := [111, 116, 104, 101, 114]
def nm4 (k : Nat) : Bs := if k = 0 then nmA else if k = 1 then nmV else if k = 2 then nmD else nmS
def rawMk (right : Bool) (k n : Int) (p0 p1 : Pat) : Pat :=
 let j := wthN k 20
 if j < 1 then .none_
 else if j < 6 then .set (nm4 (wthN n 4))
 else if j < 8 then .any_
 else if j < 13 then .cat p0 p1
 else if j < 15 then .alt p0 p1
 else if j < 16 then .star p0
 else if j < 18 then .times p0 (wthN n 3) (wthN n 3 + wthN (n.tdiv 3) 3)
 else if right then p0
 else .weight p0 (wthN n 7)
def rawLit (n : Int) (i : Nat) : Pat := .set (nm4 (wthN (IntKind.i64.wrap (n + i)) 4))
def RawP.pat (right : Bool) : RawP -> Pat
 | .node k n [] => rawMk right k n (rawLit n 0) (rawLit n 1)
 | .node k n [x] => rawMk right k n (x.pat right) (rawLit n 1)
 | .node k n (x :: y :: _) => rawMk right k n (x.pat right) (y.pat right)
def RawP.part (right : Bool) (x : RawP) (i : Nat) : Pat := match x.l[i]? with | some y => y.pat right | none => rawLit x.n i
theorem RawP.pat_eq (right : Bool) (x : RawP) : x.pat right = rawMk right x.k x.n (x.part right 0) (x.part right 1) := by
 obtain ⟨k, n, l⟩ := x
 match l with
 | [] => rw [RawP.pat]; rfl
 | [y] => rw [RawP.pat]; rfl
 | y :: z :: r => rw [RawP.pat]; rfl
def sizeR : Nat -> List RawP -> Nat
 | 0, _ => 1000
 | f + 1, l => l.foldl (fun n x => if n <= 30 then n + 1 + sizeR f x.l else n) 0
def foldR (f : Nat) (n : Nat) (l : List RawP) : Nat := l.foldl (fun n x => if n <= 30 then n + 1 + sizeR f x.l else n) n
theorem sizeR_succ (f : Nat) (l : List RawP) : sizeR (f + 1) l = foldR f 0 l := by rw [sizeR]; rfl
theorem foldR_ge (f : Nat) : ∀ (l : List RawP) (n : Nat), n <= foldR f n l := by
 intro l
 induction l with
 | nil => intro n; exact Nat.le_refl _
 | cons x l ih =>
   intro n
   show n <= foldR f (if n <= 30 then n + 1 + sizeR f x.l else n) l
   refine Nat.le_trans ?_ (ih _)
   split <;> omega
theorem foldR_stop (f : Nat) (l : List RawP) (n : Nat) (h : 30 < n) : foldR f n l = n := by
 induction l with
 | nil => rfl
 | cons x l ih =>
   show foldR f (if n <= 30 then n + 1 + sizeR f x.l else n) l = n
   rw [if_neg (by omega)]; exact ih
def sumR (f : Nat) : List RawP -> Nat
 | [] => 0
 | x :: l => 1 + sizeR f x.l + sumR f l
theorem foldR_few (f : Nat) : ∀ (l : List RawP) (n : Nat), foldR f n l <= 30 -> foldR f n l = n + sumR f l := by
 intro l
 induction l with
 | nil => intro n _; rfl
 | cons x l ih =>
   intro n h
   have h' : foldR f (if n <= 30 then n + 1 + sizeR f x.l else n) l <= 30 := h
   have hn : n <= 30 := Nat.le_trans (foldR_ge f (x :: l) n) h
   rw [if_pos hn] at h'
   show foldR f (if n <= 30 then n + 1 + sizeR f x.l else n) l = _
   rw [if_pos hn, ih _ h', sumR]
   omega
theorem sizeR_few {f : Nat} {l : List RawP} (h : sizeR f l <= 30) : ∃ f', f = f' + 1 /\ sizeR f l = sumR f' l := by
 cases f with
 | zero => simp [sizeR] at h
 | succ f =>
   rw [sizeR_succ] at h
   exact ⟨f, rfl, by rw [sizeR_succ, foldR_few f l 0 h]; omega⟩
theorem sumR_mem {f : Nat} {l : List RawP} {x : RawP} (h : x ∈ l) : 1 + sizeR f x.l <= sumR f l := by
 induction l with
 | nil => cases h
 | cons y l ih =>
   rw [sumR]
   rcases List.mem_cons.1 h with rfl | h
   ·omega
   ·have := ih h; omega
theorem sumR_two {f : Nat} {x y : RawP} {l : List RawP} : 1 + sizeR f x.l + (1 + sizeR f y.l) <= sumR f (x :: y :: l) := by
 rw [sumR, sumR]; omega
def FewR (f : Nat) (x : RawP) : Prop := sizeR f x.l <= 30
theorem FewR.part {f : Nat} {x y : RawP} {i : Nat} (h : FewR f x) (hy : x.l[i]? = some y) : ∃ f', f = f' + 1 /\ FewR f' y := by
 obtain ⟨f', rfl, he⟩ := sizeR_few h
 refine ⟨f', rfl, ?_⟩
 have := sumR_mem (f := f') (List.mem_of_getElem? hy)
 unfold FewR at h ⊢
 omega
def dNames : List Bs := [nmA, nmV, nmD, nmS]
theorem nm4_mem (k : Nat) : nm4 k ∈ dNames := by
 unfold nm4 dNames
 split
 ·simp
 ·split
  ·simp
  ·split <;> simp
theorem rawMk_ok {D : List Bs} (hD : ∀ s ∈ dNames, s ∈ D) (right : Bool) (k n : Int) (p0 p1 : Pat) (h0 : p0.Ok D (!right)) (h1 : p1.Ok D (!right)) : (rawMk right k n p0 p1).Ok D (!right) := by
 have a3 := wthN_lt n 3 (by omega)
 have b3 := wthN_lt (n.tdiv 3) 3 (by omega)
 have a7 := wthN_lt n 7 (by omega)
 simp only [Int.cast_ofNat_Int] at a3 b3 a7
 unfold rawMk
 dsimp only
 split; · trivial
 split; · exact hD _ (nm4_mem _)
 split; · trivial
 split; · exact ⟨h0, h1⟩
 split; · exact ⟨h0, h1⟩
 split; · exact h0
 split
 ·exact ⟨h0, by omega, by omega⟩
 split
 ·exact h0
 ·cases right
  ·exact ⟨h0, rfl, by omega⟩
  ·simp at *
theorem rawMk_deep (right : Bool) (k n : Int) (p0 p1 : Pat) (d : Nat) (h0 : p0.deep <= d) (h1 : p1.deep <= d) : (rawMk right k n p0 p1).deep <= d + 1 := by
 have m : ∀ (b : Bool) (x : Nat), x <= d -> more b x <= d + 1 := fun b x h => by unfold more; split <;> omega
 have m0 := m p0.atom _ h0
 have m1 := m p1.atom _ h1
 unfold rawMk
 dsimp only
 repeat' split
 all_goals (try simp only [Pat.deep])
 all_goals omega
theorem RawP.ok {D : List Bs} (hD : ∀ s ∈ dNames, s ∈ D) (right : Bool) : ∀ (f : Nat) (x : RawP), FewR f x -> (x.pat right).Ok D (!right) /\ (x.pat right).deep <= f + 1 := by
 intro f
 induction f with
 | zero => intro x h; simp [FewR, sizeR] at h
 | succ f ih =>
   intro x h
   have hp : ∀ i, (x.part right i).Ok D (!right) /\ (x.part right i).deep <= f + 1 := by
    intro i
    unfold RawP.part
    cases hy : x.l[i]? with
    | none => exact ⟨hD _ (nm4_mem _), by simp [rawLit, Pat.deep]⟩
    | some y =>
      obtain ⟨f', e, hf⟩ := h.part hy
      obtain rfl : f' = f := by omega
      exact ih y hf
   rw [RawP.pat_eq]
   exact ⟨rawMk_ok hD right _ _ _ _ (hp 0).1 (hp 1).1, rawMk_deep right _ _ _ _ _ (hp 0).2 (hp 1).2⟩
theorem nm4_len (k : Nat) : (nm4 k).length = 1 := by
 unfold nm4
 split; · rfl
 split; · rfl
 split <;> rfl
theorem dec_len1 (n : Nat) (h : n < 10) : (Lib.decDigits n).length = 1 := by rw [dec_small' h]; rfl
theorem within_len (b : Bool) (l : Bs) : (within_ b l).length <= l.length + 2 := by cases b <;> simp [within_] <;> omega
theorem rawMk_len (right : Bool) (k n : Int) (p0 p1 : Pat) : (rawMk right k n p0 p1).text.length <= p0.text.length + p1.text.length + 7 := by
 have a3 := wthN_lt n 3 (by omega)
 have b3 := wthN_lt (n.tdiv 3) 3 (by omega)
 have a7 := wthN_lt n 7 (by omega)
 simp only [Int.cast_ofNat_Int] at a3 b3 a7
 have w0 := within_len p0.atom p0.text
 have w1 := within_len p1.atom p1.text
 have hn := nm4_len (wthN n 4)
 have d1 := dec_len1 (wthN n 3) (by omega)
 have d2 := dec_len1 (wthN n 3 + wthN (n.tdiv 3) 3) (by omega)
 have d3 := dec_len1 (wthN n 7) (by omega)
 unfold rawMk
 dsimp only
 repeat' split
 all_goals simp [Pat.text, wAny]
 all_goals omega
theorem RawP.len (right : Bool) : ∀ (f : Nat) (x : RawP), FewR f x -> (x.pat right).text.length <= 9 * (1 + sizeR f x.l) := by
 intro f
 induction f with
 | zero => intro x h; simp [FewR, sizeR] at h
 | succ f ih =>
   intro x h
   obtain ⟨f', e, hs⟩ := sizeR_few h
   obtain rfl : f' = f := by omega
   have hl : ∀ n i, (rawLit n i).text.length <= 1 := fun n i => by unfold rawLit; simp only [Pat.text]; exact Nat.le_of_eq (nm4_len _)
   rw [RawP.pat_eq]
   have hm := rawMk_len right x.k x.n (x.part right 0) (x.part right 1)
   rw [hs]
   have h' : sumR f' x.l <= 30 := by rw [<- hs]; exact h
   obtain ⟨k, n, l⟩ := x
   unfold RawP.part RawP.l at hm ⊢
   match l with
   | [] => simp only [RawP.n, List.getElem?_nil] at hm ⊢; have := hl n 0; have := hl n 1; omega
   | [y] =>
     simp only [RawP.l, RawP.n, List.getElem?_cons_zero, List.getElem?_cons_succ, List.getElem?_nil] at hm h' ⊢
     have := hl n 1
     have hy : FewR f' y := by unfold FewR; simp only [sumR] at h'; omega
     have := ih y hy
     simp only [sumR] at h' ⊢
     omega
   | y :: z :: r =>
     simp only [RawP.l, RawP.n, List.getElem?_cons_zero, List.getElem?_cons_succ] at hm h' ⊢
     have hs2 := sumR_two (f := f') (x := y) (y := z) (l := r)
     have hy : FewR f' y := by unfold FewR; omega
     have hz : FewR f' z := by unfold FewR; omega
     have := ih y hy
     have := ih z hz
     omega
end Go.Proofs.YtfccnadbiglagaaGreat
namespace Go.Proofs.YtfccnadbiglagaaGreat
open Go
def clsOf (D : List Bs) : Nat -> Nat -> Cls
 | 0, n => .range (n / 16 % 50 + 40) (n / 16 % 50 + 40 + n / 16 % 5)
 | f + 1, n =>
   if n % 16 < 5 then .range (n / 16 % 50 + 40) (n / 16 % 50 + 40 + n / 16 % 5)
   else if n % 16 < 6 then .range (n / 16 % 1114112) (min (n / 16 % 1114112 + n / 16 % 9) 1114111)
   else if n % 16 < 8 then .name (D.getD (n / 16 % D.length) [])
   else if n % 16 < 9 then .any_
   else if n % 16 < 10 then .not_ (clsOf D f (n / 16))
   else if n / 16 % 3 = 0 then .or_ (clsOf D f (n / 16 / 3)) (clsOf D f (n / 16 / 48))
   else if n / 16 % 3 = 1 then .and_ (clsOf D f (n / 16 / 3)) (clsOf D f (n / 16 / 48))
   else .less (clsOf D f (n / 16 / 3)) (clsOf D f (n / 16 / 48))
def defs4 : List DefP := [⟨nmA, .range 97 97⟩, ⟨nmV, .range 97 99⟩, ⟨nmD, .or_ (.range 48 57) (.range 19968 20223)⟩, ⟨nmS, .less .any_ (.name nmV)⟩]
def nm6 (i : Nat) : Bs := if i = 0 then nmW else nmO
def addDef (l : List DefP) (i : Nat) (z : Int) : List DefP := l ++ [⟨nm6 i, clsOf (l.map DefP.name) 4 (wthN z 1099511627776)⟩]
def defsOf : List Int -> List DefP
 | [] => defs4
 | [x] => addDef defs4 0 x
 | x :: y :: _ => addDef (addDef defs4 0 x) 1 y
theorem few_mem {l : List RawP} (h : sizeR 6 l <= 30) {x : RawP} (hx : x ∈ l) : FewR 5 x /\ 1 + sizeR 5 x.l <= 30 := by
 obtain ⟨f, e, hs⟩ := sizeR_few h
 obtain rfl : f = 5 := by omega
 have := sumR_mem (f := 5) hx
 unfold FewR
 omega
theorem few_get {l : List RawP} (h : sizeR 6 l <= 30) {i : Nat} (hi : i < l.length) : FewR 5 (l.getD i (.node 0 0 [])) /\ 1 + sizeR 5 (l.getD i (.node 0 0 [])).l <= 30 := by
 rw [List.getD_eq_getElem?_getD, List.getElem?_eq_getElem hi]
 exact few_mem h (List.getElem_mem hi)
end Go.Proofs.YtfccnadbiglagaaGreat
