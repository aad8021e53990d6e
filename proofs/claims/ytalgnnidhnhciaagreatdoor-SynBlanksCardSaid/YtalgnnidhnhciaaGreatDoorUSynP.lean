/- Plain mathematics of rules as texts: the signs of a text, and the reader of sets and patterns over rows of signs. Expressions and patterns as they lie in memory. -/
import Derived.Lib.Hide
import Derived.Test.YtalgnnidhnhciaaGreatDoorBlk
set_option linter.unusedVariables false
set_option linter.unusedSimpArgs false
namespace Go.Proofs.YtalgnnidhnhciaaGreatDoor
abbrev Bs := List UInt8
inductive Tree where
 | mk (kind lo hi w : Int) (name : Bs) (l : List Tree)
def cRange (lo hi : Int) : Tree := .mk 1 lo hi 0 [] []
def cName (s : Bs) : Tree := .mk 2 0 0 0 s []
def cAny : Tree := .mk 3 0 0 0 [] []
def cNot (c : Tree) : Tree := .mk 4 0 0 0 [] [c]
def cTwo (k : Int) (a b : Tree) : Tree := .mk k 0 0 0 [] [a, b]
def rNone : Tree := .mk 1 0 0 0 [] []
def rSet (s : Bs) : Tree := .mk 2 0 0 0 s []
def rAny : Tree := .mk 3 0 0 0 [] []
def rTwo (k : Int) (a b : Tree) : Tree := .mk k 0 0 0 [] [a, b]
def rStar (a : Tree) : Tree := .mk 6 0 0 0 [] [a]
def rTimes (a : Tree) (lo hi : Int) : Tree := .mk 7 lo hi 0 [] [a]
def rWeight (a : Tree) (w : Int) : Tree := .mk 8 0 0 w [] [a]
def smallB (c : UInt8) : Bool := Nat.ble 97 c.toNat && Nat.ble c.toNat 122
def digB (c : UInt8) : Bool := Nat.ble 48 c.toNat && Nat.ble c.toNat 57
def wdB (c : UInt8) : Bool := smallB c || digB c
def hexB (c : UInt8) : Bool := digB c || (Nat.ble 65 c.toNat && Nat.ble c.toNat 70)
def hexV (c : UInt8) : Nat := if digB c then c.toNat - 48 else c.toNat - 55
def wAny : Bs := [97, 110, 121]
def wClass : Bs := [99, 108, 97, 115, 115]
def wEmergency : Bs := [101, 109, 101, 114, 103, 101, 110, 99, 121]
def wHyphen : Bs := [104, 121, 112, 104, 101, 110]
def wLine : Bs := [108, 105, 110, 101]
def wordK (w : Bs) : Nat := if w == wAny then 261 else if w == wClass then 262 else if w == wLine then 263 else if w == wHyphen then 264 else if w == wEmergency then 265 else 258
def markB (c : UInt8) : Bool := [123, 125, 40, 41, 61, 59, 58, 47, 124, 38, 33, 45, 42, 64, 46, 44, 63].contains c
def numOf (l : Bs) : Nat := l.foldl (fun n c => 10 * n + (c.toNat - 48)) 0
def hexOf (l : Bs) : Nat := l.foldl (fun n c => 16 * n + hexV c) 0
structure Sg where
 kind : Nat
 word : Bs
 n : Nat
 large : Bool
 size : Nat
def Sg.none : Sg := ⟨257, [], 0, false, 1⟩
def wordS (s : Bs) : Sg := ⟨wordK (s.takeWhile wdB), s.takeWhile wdB, 0, Nat.blt 12 (s.takeWhile wdB).length, (s.takeWhile wdB).length⟩
def digS (s : Bs) : Sg := ⟨259, [], numOf (s.takeWhile digB), Nat.blt 1000000 (numOf (s.takeWhile digB)), (s.takeWhile digB).length⟩
def quotS (s : Bs) : Sg :=
 match s with
 | _ :: x :: y :: _ => if Nat.ble 32 x.toNat && Nat.ble x.toNat 126 && y == 39 then ⟨260, [], x.toNat, false, 3⟩ else Sg.none
 | _ => Sg.none
def codeS (s : Bs) : Sg :=
 match s with
 | _ :: x :: h =>
   if x == 43 && !((h.take 6).takeWhile hexB).isEmpty then
    ⟨260, [], hexOf ((h.take 6).takeWhile hexB), Nat.blt 1114111 (hexOf ((h.take 6).takeWhile hexB)), 2 + ((h.take 6).takeWhile hexB).length⟩
   else Sg.none
 | _ => Sg.none
def lexS : Bs -> Sg
 | [] => ⟨256, [], 0, false, 0⟩
 | c :: r => if smallB c then wordS (c :: r) else if digB c then digS (c :: r) else if c == 39 then quotS (c :: r) else if c == 85 then codeS (c :: r) else if markB c then ⟨c.toNat, [], 0, false, 1⟩ else Sg.none
def skipB : Bool -> Bs -> Bs
 | _, [] => []
 | rem, c :: r => if c == 10 then skipB false r else if c == 35 then skipB true r else if c != 32 && !rem then c :: r else skipB rem r
structure Tok where
 kind : Nat
 word : Bs
 n : Nat
deriving DecidableEq
abbrev Toks := List Tok
def lexP : Nat -> Bs -> List (Tok × Nat)
 | 0, _ => [(⟨256, [], 0⟩, 0)]
 | f + 1, u =>
   let r := skipB false u
   let g := lexS r
   if g.kind == 256 then [(⟨256, [], 0⟩, 0)]
   else if g.kind == 257 then [(⟨257, [], 0⟩, r.length)]
   else if g.large then [(⟨266, [], 0⟩, r.length)]
   else (⟨g.kind, g.word, g.n⟩, r.length) :: lexP f (r.drop g.size)
abbrev Rd (α : Type) := Except (Nat × Toks) (α × Toks)
abbrev X := Except (Nat × Toks) Toks
def hd (ts : Toks) : Tok := ts.headD ⟨256, [], 0⟩
def kd (ts : Toks) : Nat := (hd ts).kind
def chk (ts : Toks) : X := if kd ts == 257 then .error (1, ts) else if kd ts == 266 then .error (2, ts) else .ok ts
def nxt (ts : Toks) : X := chk ts.tail
def X.on (x : X) (f : Toks -> X) : X := match x with | .ok ts => f ts | .error e => .error e
def X.into {α : Type} (x : X) (f : Toks -> Rd α) : Rd α := match x with | .ok ts => f ts | .error e => .error e
def X.give {α : Type} (x : X) (a : α) : Rd α := match x with | .ok ts => .ok (a, ts) | .error e => .error e
def Rd.then_ {α β : Type} (x : Rd α) (f : α -> Toks -> Rd β) : Rd β := match x with | .ok (a, ts) => f a ts | .error e => .error e
def tk (k : Nat) (ts : Toks) : X := if kd ts == k then nxt ts else .error (1, ts)
section
variable (F : Nat) (D : List Bs)
def spanR (ts : Toks) : Rd Tree :=
 (nxt ts).into fun t1 =>
  if kd t1 != 46 then .ok (cRange (hd ts).n (hd ts).n, t1)
  else (nxt t1).into fun t2 => (tk 46 t2).into fun t3 =>
   if kd t3 == 260 && Nat.blt (hd t3).n (hd ts).n then .error (1, t3)
   else (tk 260 t3).give (cRange (hd ts).n (hd t3).n)
def knownX (ts : Toks) : X := if D.contains (hd ts).word then nxt ts else .error (8, ts)
def plainR (cls : Option (Toks -> Rd Tree)) (ts : Toks) : Rd Tree :=
 if kd ts == 260 then spanR ts
 else if kd ts == 258 then (knownX D ts).give (cName (hd ts).word)
 else if kd ts == 261 then (nxt ts).give cAny
 else if kd ts == 40 then
  match cls with
  | none => .error (2, ts)
  | some f => ((nxt ts).into f).then_ fun c t1 => (tk 41 t1).give c
 else .error (1, ts)
def notR (nt cls : Option (Toks -> Rd Tree)) (ts : Toks) : Rd Tree :=
 if kd ts == 33 then
  match nt with
  | none => .error (2, ts)
  | some f => ((nxt ts).into f).then_ fun c t1 => .ok (cNot c, t1)
 else plainR D cls ts
def bothLoop (nt : Toks -> Rd Tree) : Nat -> Tree -> Toks -> Rd Tree
 | 0, c, ts => .ok (c, ts)
 | k + 1, c, ts => if kd ts == 38 then ((nxt ts).into nt).then_ fun d t1 => bothLoop nt k (cTwo 6 c d) t1 else .ok (c, ts)
def bothR (nt : Toks -> Rd Tree) (ts : Toks) : Rd Tree := (nt ts).then_ fun c t1 => bothLoop nt F c t1
def classLoop (bt : Toks -> Rd Tree) : Nat -> Tree -> Toks -> Rd Tree
 | 0, c, ts => .ok (c, ts)
 | k + 1, c, ts =>
   if kd ts == 124 then ((nxt ts).into bt).then_ fun d t1 => classLoop bt k (cTwo 5 c d) t1
   else if kd ts == 45 then ((nxt ts).into bt).then_ fun d t1 => classLoop bt k (cTwo 7 c d) t1
   else .ok (c, ts)
def classR (bt : Toks -> Rd Tree) (ts : Toks) : Rd Tree := (bt ts).then_ fun c t1 => classLoop bt F c t1
def lvlC : Nat -> (Toks -> Rd Tree) × (Toks -> Rd Tree)
 | 0 => (classR F (bothR F (notR D none none)), notR D none none)
 | d + 1 => (classR F (bothR F (notR D (some (lvlC d).2) (some (lvlC d).1))), notR D (some (lvlC d).2) (some (lvlC d).1))
def timesX (x : Tree) (ts : Toks) : Rd Tree :=
 (nxt ts).into fun t1 => (tk 259 t1).into fun t2 => (tk 44 t2).into fun t3 =>
  if kd t3 == 259 && Nat.blt 12 (hd t3).n then .error (2, t3)
  else if kd t3 == 259 && Nat.blt (hd t3).n (hd t1).n then .error (1, t3)
  else (tk 259 t3).into fun t4 => (tk 125 t4).give (rTimes x (hd t1).n (hd t3).n)
def weightX (wg : Bool) (x : Tree) (ts : Toks) : Rd Tree :=
 if !wg then .error (7, ts) else (nxt ts).into fun t1 => (tk 259 t1).give (rWeight x (hd t1).n)
def behindR (wg : Bool) : Nat -> Tree -> Toks -> Rd Tree
 | 0, x, ts => .ok (x, ts)
 | k + 1, x, ts =>
   if kd ts == 42 then (nxt ts).into fun t1 => behindR wg k (rStar x) t1
   else if kd ts == 123 then (timesX x ts).then_ fun y t1 => behindR wg k y t1
   else if kd ts == 64 then (weightX wg x ts).then_ fun y t1 => behindR wg k y t1
   else .ok (x, ts)
def begB (ts : Toks) : Bool := kd ts == 258 || kd ts == 261 || kd ts == 46 || kd ts == 40
def bareR (ei : Option (Toks -> Rd Tree)) (ts : Toks) : Rd Tree :=
 if kd ts == 258 then (knownX D ts).give (rSet (hd ts).word)
 else if kd ts == 40 then
  match ei with
  | none => .error (2, ts)
  | some f => ((nxt ts).into f).then_ fun c t1 => (tk 41 t1).give c
 else (nxt ts).give rAny
def pieceR (wg : Bool) (ei : Option (Toks -> Rd Tree)) (ts : Toks) : Rd Tree := (bareR D ei ts).then_ fun x t1 => behindR wg F x t1
def rowLoop (pc : Toks -> Rd Tree) : Nat -> Tree -> Toks -> Rd Tree
 | 0, x, ts => .ok (x, ts)
 | k + 1, x, ts => if begB ts then (pc ts).then_ fun y t1 => rowLoop pc k (rTwo 4 x y) t1 else .ok (x, ts)
def rowR (pc : Toks -> Rd Tree) (ts : Toks) : Rd Tree := if !begB ts then .ok (rNone, ts) else (pc ts).then_ fun x t1 => rowLoop pc F x t1
def eitherLoop (rw_ : Toks -> Rd Tree) : Nat -> Tree -> Toks -> Rd Tree
 | 0, x, ts => .ok (x, ts)
 | k + 1, x, ts => if kd ts == 124 then ((nxt ts).into rw_).then_ fun y t1 => eitherLoop rw_ k (rTwo 5 x y) t1 else .ok (x, ts)
def eitherR (rw_ : Toks -> Rd Tree) (ts : Toks) : Rd Tree := (rw_ ts).then_ fun x t1 => eitherLoop rw_ F x t1
def pcR (wg : Bool) : Nat -> Toks -> Rd Tree
 | 0 => pieceR F D wg none
 | d + 1 => pieceR F D wg (some (eitherR F (rowR F (pcR wg d))))
def rexR (wg : Bool) (d : Nat) : Toks -> Rd Tree := eitherR F (rowR F (pcR F D wg d))
structure RuleT where
 cat : Int
 cost : Int
 left : Tree
 right : Tree
def defR (ts : Toks) : Rd (Bs × Tree) :=
 (nxt ts).into fun t1 =>
  if kd t1 == 258 && D.contains (hd t1).word then .error (9, t1)
  else (tk 258 t1).into fun t2 => (tk 61 t2).into fun t3 =>
   (((lvlC F D 12).1 t3).then_ fun c t4 => (tk 59 t4).give ((hd t1).word, c))
def ruleR (ts : Toks) : Rd RuleT :=
 (nxt ts).into fun t1 => (tk 259 t1).into fun t2 => (tk 58 t2).into fun t3 =>
  (rexR F D true 12 t3).then_ fun x t4 => (tk 47 t4).into fun t5 =>
   (rexR F D false 12 t5).then_ fun y t6 => (tk 59 t6).give ⟨((kd ts - 263 : Nat) : Int), (hd t1).n, x, y⟩
end
def defsR (F : Nat) : Nat -> List (Bs × Tree) -> Toks -> Rd (List (Bs × Tree))
 | 0, l, ts => .ok (l, ts)
 | k + 1, l, ts =>
   if kd ts == 262 then
    if l.length == 12 then .error (2, ts) else (defR F (l.map Prod.fst) ts).then_ fun d t1 => defsR F k (l ++ [d]) t1
   else .ok (l, ts)
def rulesR (F : Nat) (D : List Bs) : Nat -> List RuleT -> Toks -> Rd (List RuleT)
 | 0, l, ts => .ok (l, ts)
 | k + 1, l, ts =>
   if Nat.ble 263 (kd ts) && Nat.ble (kd ts) 265 then
    if l.length == 20 then .error (2, ts) else (ruleR F D ts).then_ fun d t1 => rulesR F D k (l ++ [d]) t1
   else .ok (l, ts)
def fileR (F : Nat) (ts : Toks) : Rd (List (Bs × Tree) × List RuleT) :=
 (chk ts).into fun t0 => (defsR F 13 [] t0).then_ fun ds t1 => (rulesR F (ds.map Prod.fst) 21 [] t1).then_ fun rs t2 =>
  if kd t2 == 256 then .ok ((ds, rs), t2) else .error (1, t2)
def lexT (t : Bs) : List (Tok × Nat) := lexP (t.length + 1) t
def posT (t : Bs) (k : Nat) : Nat := t.length - (((lexT t).drop ((lexT t).length - k)).headD (⟨256, [], 0⟩, 0)).2
def parseT (t : Bs) : (List (Bs × Tree) × List RuleT) × Nat × Nat :=
 if Nat.blt 4000 t.length then (([], []), 0, 2)
 else
  match fileR (t.length + 1) ((lexT t).map Prod.fst) with
  | .ok (f, _) => (f, 0, 0)
  | .error (e, ts) => (([], []), posT t ts.length, e)
end Go.Proofs.YtalgnnidhnhciaaGreatDoor
namespace Go.Proofs.YtalgnnidhnhciaaGreatDoor
open Go Go.RowKit
def headC (r : Bool) (k lo hi wt : Int) (s : ByteArray) (A : Option Addr) (n c : Nat) : List Value :=
 match r with
 | true => [.int .i64 k, .int .i64 lo, .int .i64 hi, .int .i64 wt, .string s, .slice A n c]
 | false => [.int .i64 k, .int .i64 lo, .int .i64 hi, .string s, .slice A n c]
def sz (r : Bool) : Nat := match r with | true => 6 | false => 5
def CellsAt (w : World) (b o : Nat) (cs : List Value) : Prop := ∀ i v, cs[i]? = some v -> w.cell? ⟨b, o + i, none⟩ = some v
def AForm (A : Option Addr) (n : Nat) : Prop := (A = none -> n = 0) /\ ∀ g o y, A = some ⟨g, o, y⟩ -> y = none
theorem AForm.some {A : Option Addr} {n : Nat} (h : AForm A n) (hn : 0 < n) : ∃ g o, A = some ⟨g, o, none⟩ := by
 cases A with
 | none => have := h.1 rfl; omega
 | some a =>
   obtain ⟨g, o, y⟩ := a
   obtain rfl := h.2 g o y rfl
   exact ⟨g, o, rfl⟩
mutual
def TreeAt (r : Bool) (w : World) (S : Nat -> Prop) (b o : Nat) : Tree -> Prop
 | .mk k lo hi wt nm l => ∃ (s : ByteArray) (A : Option Addr) (n c : Nat), CellsAt w b o (headC r k lo hi wt s A n c) /\ s.data.toList = nm /\ (r = false -> wt = 0) /\ l.length = n /\ n <= c /\ c <= maxLen /\
   AForm A n /\ ∀ b' o', A = some ⟨b', o', none⟩ -> 0 < n -> S b' /\ TreesAt r w S b' o' l
def TreesAt (r : Bool) (w : World) (S : Nat -> Prop) (b o : Nat) : List Tree -> Prop
 | [] => True
 | t :: ts => TreeAt r w S b o t /\ TreesAt r w S b (o + sz r) ts
end
def TreeV (r : Bool) (w : World) (S : Nat -> Prop) (v : Value) : Tree -> Prop
 | .mk k lo hi wt nm l => ∃ (s : ByteArray) (A : Option Addr) (n c : Nat), v = .agg (headC r k lo hi wt s A n c).toArray /\ s.data.toList = nm /\ (r = false -> wt = 0) /\ l.length = n /\ n <= c /\ c <= maxLen /\
   AForm A n /\ ∀ b' o', A = some ⟨b', o', none⟩ -> 0 < n -> S b' /\ TreesAt r w S b' o' l
def HeadV (r : Bool) (v : Value) : Prop := ∃ (k lo hi wt : Int) (s : ByteArray) (A : Option Addr) (n c : Nat), v = .agg (headC r k lo hi wt s A n c).toArray
theorem TreeV.head {r : Bool} {w : World} {S : Nat -> Prop} {v : Value} {t : Tree} (h : TreeV r w S v t) : HeadV r v := by
 cases t
 obtain ⟨s, A, n, c, e, _⟩ := h
 exact ⟨_, _, _, _, s, A, n, c, e⟩
theorem CellsAt.keep {w w' : World} {b o : Nat} {cs : List Value} (h : CellsAt w b o cs) (hk : ∀ i x, w.cell? ⟨b, i, none⟩ = some x -> w'.cell? ⟨b, i, none⟩ = some x) : CellsAt w' b o cs := fun i v hv => hk _ _ (h i v hv)
mutual
theorem TreeAt.keep {r : Bool} {w w' : World} {S S' : Nat -> Prop} (hS : ∀ g, S g -> S' g) (hk : ∀ g, S g -> ∀ i x, w.cell? ⟨g, i, none⟩ = some x -> w'.cell? ⟨g, i, none⟩ = some x) :
  ∀ (t : Tree) (b o : Nat), (∀ i x, w.cell? ⟨b, i, none⟩ = some x -> w'.cell? ⟨b, i, none⟩ = some x) -> TreeAt r w S b o t -> TreeAt r w' S' b o t
  | .mk k lo hi wt nm l, b, o, hb, h => by
    rw [TreeAt] at h ⊢
    obtain ⟨s, A, n, c, h1, h2, h3, h4, h5, h6, h7, h8⟩ := h
    refine ⟨s, A, n, c, h1.keep hb, h2, h3, h4, h5, h6, h7, fun b' o' e hn => ?_⟩
    obtain ⟨g1, g2⟩ := h8 b' o' e hn
    exact ⟨hS _ g1, TreesAt.keep hS hk l b' o' (hk b' g1) g2⟩
theorem TreesAt.keep {r : Bool} {w w' : World} {S S' : Nat -> Prop} (hS : ∀ g, S g -> S' g) (hk : ∀ g, S g -> ∀ i x, w.cell? ⟨g, i, none⟩ = some x -> w'.cell? ⟨g, i, none⟩ = some x) :
  ∀ (l : List Tree) (b o : Nat), (∀ i x, w.cell? ⟨b, i, none⟩ = some x -> w'.cell? ⟨b, i, none⟩ = some x) -> TreesAt r w S b o l -> TreesAt r w' S' b o l
  | [], _, _, _, _ => by rw [TreesAt]; trivial
  | t :: ts, b, o, hb, h => by
    rw [TreesAt] at h ⊢
    exact ⟨TreeAt.keep hS hk t b o hb h.1, TreesAt.keep hS hk ts b (o + sz r) hb h.2⟩
end
theorem TreeV.keep {r : Bool} {w w' : World} {S S' : Nat -> Prop} {v : Value} {t : Tree} (h : TreeV r w S v t) (hS : ∀ g, S g -> S' g) (hk : ∀ g, S g -> ∀ i x, w.cell? ⟨g, i, none⟩ = some x -> w'.cell? ⟨g, i, none⟩ = some x) : TreeV r w' S' v t := by
 cases t with
 | mk k lo hi wt nm l =>
   obtain ⟨s, A, n, c, h1, h2, h3, h4, h5, h6, h7, h8⟩ := h
   refine ⟨s, A, n, c, h1, h2, h3, h4, h5, h6, h7, fun b' o' e hn => ?_⟩
   obtain ⟨g1, g2⟩ := h8 b' o' e hn
   exact ⟨hS _ g1, TreesAt.keep hS hk l b' o' (hk b' g1) g2⟩
theorem TreeV.laid {r : Bool} {w : World} {S : Nat -> Prop} {k lo hi wt : Int} {s : ByteArray} {A : Option Addr} {n c : Nat} {t : Tree} {b o : Nat} (h : TreeV r w S (.agg (headC r k lo hi wt s A n c).toArray) t) (hc : CellsAt w b o (headC r k lo hi wt s A n c)) : TreeAt r w S b o t := by
 cases t with
 | mk k' lo' hi' wt' nm l =>
   obtain ⟨s', A', n', c', h1, h2, h3, h4, h5, h6, h7, h8⟩ := h
   rw [TreeAt]
   have e : headC r k lo hi wt s A n c = headC r k' lo' hi' wt' s' A' n' c' := by
    have := Value.agg.inj h1
    have := congrArg Array.toList this
    simpa using this
   rw [e] at hc
   exact ⟨s', A', n', c', hc, h2, h3, h4, h5, h6, h7, h8⟩
theorem TreeV.leaf (r : Bool) (w : World) (S : Nat -> Prop) (k lo hi wt : Int) (s : ByteArray) (hw : r = false -> wt = 0) : TreeV r w S (.agg (headC r k lo hi wt s none 0 0).toArray) (.mk k lo hi wt s.data.toList []) :=
 ⟨s, none, 0, 0, rfl, rfl, hw, rfl, Nat.le_refl _, Nat.zero_le _, ⟨fun _ => rfl, fun _ _ _ e => by cases e⟩, fun _ _ e => by cases e⟩
theorem TreesAt.lt {r : Bool} {w : World} {S : Nat -> Prop} {b o : Nat} {l : List Tree} (h : TreesAt r w S b o l) (hl : 0 < l.length) : b < w.heap.size := by
 cases l with
 | nil => simp at hl
 | cons t ts =>
   rw [TreesAt] at h
   obtain ⟨h1, _⟩ := h
   cases t with
   | mk k lo hi wt nm l =>
     rw [TreeAt] at h1
     obtain ⟨s, A, n, c, hc, _⟩ := h1
     exact World.block_lt_of_cell? w _ (hc 0 (.int .i64 k) (by cases r <;> rfl))
mutual
theorem TreeAt.bound {r : Bool} {w : World} {S : Nat -> Prop} : ∀ (t : Tree) (b o : Nat), TreeAt r w S b o t -> TreeAt r w (fun g => S g /\ g < w.heap.size) b o t
 | .mk k lo hi wt nm l, b, o, h => by
   rw [TreeAt] at h ⊢
   obtain ⟨s, A, n, c, h1, h2, h3, h4, h5, h6, h7, h8⟩ := h
   refine ⟨s, A, n, c, h1, h2, h3, h4, h5, h6, h7, fun b' o' e hn => ?_⟩
   obtain ⟨g1, g2⟩ := h8 b' o' e hn
   exact ⟨⟨g1, g2.lt (by omega)⟩, TreesAt.bound l b' o' g2⟩
theorem TreesAt.bound {r : Bool} {w : World} {S : Nat -> Prop} : ∀ (l : List Tree) (b o : Nat), TreesAt r w S b o l -> TreesAt r w (fun g => S g /\ g < w.heap.size) b o l
 | [], _, _, _ => by rw [TreesAt]; trivial
 | t :: ts, b, o, h => by
   rw [TreesAt] at h ⊢
   exact ⟨TreeAt.bound t b o h.1, TreesAt.bound ts b (o + sz r) h.2⟩
end
theorem TreeV.bound {r : Bool} {w : World} {S : Nat -> Prop} {v : Value} {t : Tree} (h : TreeV r w S v t) : TreeV r w (fun g => S g /\ g < w.heap.size) v t := by
 cases t with
 | mk k lo hi wt nm l =>
   obtain ⟨s, A, n, c, h1, h2, h3, h4, h5, h6, h7, h8⟩ := h
   refine ⟨s, A, n, c, h1, h2, h3, h4, h5, h6, h7, fun b' o' e hn => ?_⟩
   obtain ⟨g1, g2⟩ := h8 b' o' e hn
   exact ⟨⟨g1, g2.lt (by omega)⟩, TreesAt.bound l b' o' g2⟩
end Go.Proofs.YtalgnnidhnhciaaGreatDoor
