/- What lies in memory where syn reads: the reader's twelve cells; contract of the way over blanks. Contracts of syn's reading of one sign: a word, a number, a scalar, the first sign of a text. Contract of syn's look for a set by its name. -/
import Derived.Test.YtfccnadbiglagaaGreatVBlk
import Derived.Test.YtfccnadbiglagaaGreatVPlA
import Derived.Deep.QuietTactic
import Derived.BigQuiet
import Derived.Deep.LoopGhost
import Derived.LoopTactic
import Derived.Test.YtfccnadbiglagaaGreatVShelfB
import Derived.Lib.Strings
import Derived.Lib.Walk
import Derived.Lib.ConvBytes
import Derived.Lib.AtoiAllMem
import Derived.Laws.Strings3
import Derived.Laws.Closers25
import Derived.Laws.Closers25b
import Derived.BigCall
import Derived.BigGuard
set_option linter.unusedVariables false
set_option linter.unusedSimpArgs false
set_option maxRecDepth 100000
set_option maxHeartbeats 2000000
namespace Go.Proofs.YtfccnadbiglagaaGreat
open Go Go.RowKit
structure PS where
 done : Int
 kind : Int
 at_ : Int
 word : ByteArray
 n : Int
 large : Bool
 place : Int
 e : Int
 defs : Value
 rules : Value
 deep : Int
def PS.cells (s : ByteArray) (p : PS) : Array Value :=
 #[.string s, .int .i64 p.done, .int .i64 p.kind, .int .i64 p.at_, .string p.word, .int .i64 p.n, .bool p.large, .int .i64 p.place, .int .i64 p.e, p.defs, p.rules, .int .i64 p.deep]
section
variable {w w' : World} {b : Nat} {s : ByteArray} {p : PS}
end
end Go.Proofs.YtfccnadbiglagaaGreat
namespace Go.Proofs.YtfccnadbiglagaaGreat
open Go Go.RowKit
def FirstR (g : Sg) (w : World) (e : Ending) (w' : World) : Prop :=
 ∃ (wd : ByteArray) (n : Int), e = .returned (.tuple #[.agg #[.int .i64 g.kind, .int .i64 0, .string wd, .int .i64 n, .bool g.large], .int .i64 g.size]) /\ wd.data.toList = g.word /\ (g.large = false -> n = g.n) /\ Below w.heap.size w w'
theorem FirstR.mk' {g : Sg} {w w' : World} (kind size n : Int) (wd : ByteArray) (large : Bool) (h1 : kind = g.kind) (h2 : large = g.large) (h3 : size = g.size) (h4 : wd.data.toList = g.word) (h5 : g.large = false -> n = g.n) (h6 : Below w.heap.size w w') :
  FirstR g w (.returned (.tuple #[.agg #[.int .i64 kind, .int .i64 0, .string wd, .int .i64 n, .bool large], .int .i64 size])) w' := by
  subst h1; subst h2; subst h3
  exact ⟨wd, n, rfl, h4, h5, h6⟩
theorem FirstR.none_ {w w' : World} (h : Below w.heap.size w w') : FirstR Sg.none w (.returned (.tuple #[.agg #[.int .i64 257, .int .i64 0, .string ⟨#[]⟩, .int .i64 0, .bool false], .int .i64 1])) w' :=
 FirstR.mk' _ _ _ _ _ rfl rfl rfl rfl (fun _ => rfl) h
end Go.Proofs.YtfccnadbiglagaaGreat
namespace Go.Proofs.YtfccnadbiglagaaGreat
open Go Go.RowKit
def Names (w : World) (S : Nat -> Prop) (v : Value) (D : List (List UInt8)) : Prop :=
 ∃ (A : Option Addr) (c : Nat), v = .slice A D.length c /\ D.length <= c /\ c <= maxLen /\ (A = none -> c = 0) /\ ∀ i, i < D.length -> ∃ b o, A = some ⟨b, o, none⟩ /\ S b /\ b < w.heap.size /\
   ∃ (s : ByteArray) (y1 y2 y3 : Int) (y4 : ByteArray) (y5 : Option Addr) (y6 y7 : Nat), s.data.toList = D.getD i [] /\ w.cell? ⟨b, o + i * 6, none⟩ = some (.string s) /\ w.cell? ⟨b, o + i * 6 + 1, none⟩ = some (.int .i64 y1) /\ w.cell? ⟨b, o + i * 6 + 2, none⟩ = some (.int .i64 y2) /\
     w.cell? ⟨b, o + i * 6 + 3, none⟩ = some (.int .i64 y3) /\ w.cell? ⟨b, o + i * 6 + 4, none⟩ = some (.string y4) /\ w.cell? ⟨b, o + i * 6 + 5, none⟩ = some (.slice y5 y6 y7)
theorem Names.keep {w w' : World} {S S' : Nat -> Prop} {v : Value} {D : List (List UInt8)} (h : Names w S v D) (hS : ∀ g, S g -> S' g) (hk : ∀ g, S g -> ∀ i x, w.cell? ⟨g, i, none⟩ = some x -> w'.cell? ⟨g, i, none⟩ = some x) : Names w' S' v D := by
 obtain ⟨A, c, h1, h2, h3, h4, h5⟩ := h
 refine ⟨A, c, h1, h2, h3, h4, fun i hi => ?_⟩
 obtain ⟨b, o, e, e1, e2, s, y1, y2, y3, y4, y5, y6, y7, g, g0, g1, g2, g3, g4, g5⟩ := h5 i hi
 have q := hk b e1
 exact ⟨b, o, e, hS _ e1, World.block_lt_of_cell? w' _ (q _ _ g0), s, y1, y2, y3, y4, y5, y6, y7, g, q _ _ g0, q _ _ g1, q _ _ g2, q _ _ g3, q _ _ g4, q _ _ g5⟩
def ixN : List (List UInt8) -> List UInt8 -> Int
 | [], _ => -1
 | a :: r, s => if a == s then 0 else if ixN r s = -1 then -1 else ixN r s + 1
theorem ixN_ge (D : List (List UInt8)) (s : List UInt8) : -1 <= ixN D s := by
 induction D with
 | nil => simp [ixN]
 | cons a r ih => simp only [ixN]; repeat' split
                  all_goals omega
theorem ixN_lt (D : List (List UInt8)) (s : List UInt8) : ixN D s < D.length := by
 induction D with
 | nil => simp [ixN]
 | cons a r ih =>
   simp only [ixN, List.length_cons]
   split
   ·push_cast; omega
   ·split <;> push_cast <;> omega
theorem ixN_drop (D : List (List UInt8)) (s : List UInt8) (k : Nat) (hk : k <= D.length) (h : ∀ i, i < k -> D.getD i [] ≠ s) : ixN D s = if ixN (D.drop k) s = -1 then -1 else ixN (D.drop k) s + k := by
 induction k with
 | zero => simp
 | succ k ih =>
   have hk' : k < D.length := hk
   rw [ih (by omega) (fun i hi => h i (by omega)), List.drop_eq_getElem_cons hk']
   have hne : D[k] ≠ s := by have := h k (by omega); simpa [List.getD, List.getElem?_eq_getElem hk'] using this
   have h1 : (D[k] == s) = false := by simpa using hne
   have := ixN_ge (D.drop (k + 1)) s
   simp only [ixN, h1, Bool.false_eq_true, if_false]
   by_cases h3 : ixN (D.drop (k + 1)) s = -1
   ·simp [h3]
   ·rw [if_neg h3, if_neg (by omega)]; push_cast; omega
theorem pred_any (w : World) (q : Nat) (s t : ByteArray) (y1 y2 y3 : Int) (y4 : ByteArray) (y5 : Option Addr) (y6 y7 : Nat) (hq : w.cell? ⟨q, 0, none⟩ = some (.string t)) :
  Calls Tryz.prog 149 #[.agg #[.string s, .int .i64 y1, .int .i64 y2, .int .i64 y3, .string y4, .slice y5 y6 y7], .pointer (some ⟨q, 0, none⟩)] w fun e w' => e = .returned (.bool (s.toList == t.toList)) /\ Below w.heap.size w w' := by
  have hlt := World.block_lt_of_cell? w _ hq
  go_enter Tryz.func149, Tryz.ntmps149
  go_wp2_with fail
  go_ret
  exact ⟨rfl, (Below.refl _ _).alloc (Nat.le_refl _) _⟩
theorem indexF_any (w : World) (S : Nat -> Prop) (v : Value) (D : List (List UInt8)) (q : Nat) (t : ByteArray) (h : Names w S v D) (hn : D.length <= 1000) (hq : w.cell? ⟨q, 0, none⟩ = some (.string t)) :
  Calls Tryz.prog 103 #[v, .func (.func 149) #[] #[.pointer (some ⟨q, 0, none⟩)]] w fun e w' => e = .returned (.int .i64 (ixN D t.data.toList)) /\ Below w.heap.size w w' := by
  have hlt := World.block_lt_of_cell? w _ hq
  obtain ⟨A, c, rfl, h1, h2, h3, h4⟩ := h
  obtain ⟨n, hnn⟩ : ∃ n, D.length = n := ⟨_, rfl⟩
  rw [hnn] at h1 h4 hn ⊢
  have H4 := Lib.hid h4; have H3 := Lib.hid h3; clear h3 h4
  have HN := Lib.hid hnn; clear hnn
  unfold maxLen at h2
  go_enter Tryz.func103, Tryz.ntmps103
  go_wp2_with fail
  go_loopg [8] n (fun gk v8 wr => ∃ k : Nat, v8 = .int .i64 k /\ gk = n - k /\ k <= n /\ Hid (∀ i, i < k -> D.getD i [] ≠ t.data.toList) /\ Hid (Below w.heap.size w wr))
  case atStart => exact ⟨0, rfl, rfl, Nat.zero_le _, Lib.hid (fun i hi => absurd hi (by omega)), Lib.hid (Below.refl _ _)⟩
  case round =>
   obtain ⟨k, rfl, hgk, hk, HK, HB⟩ := hrel
   have HGK := Lib.hid hgk; clear hgk
   have i0 : (0 : Int) <= (k : Int) := Int.natCast_nonneg _
   by_cases hlt2 : k < n
   ·obtain ⟨b, o, rfl, hSb, hbl, s, y1, y2, y3, y4, y5, y6, y7, e0, g0, g1, g2, g3, g4, g5⟩ := H4.out k hlt2
    obtain ⟨hcc, hff⟩ := bcell HB.out
    rw [<- hcc b _ hbl] at g0 g1 g2 g3 g4 g5
    have hq' : wr.cell? ⟨q, 0, none⟩ = some (.string t) := by rw [hcc q 0 hlt]; exact hq
    have hp := fun W hW => pred_any W q s t y1 y2 y3 y4 y5 y6 y7 hW
    have E0 := Lib.hid e0; clear e0 hcc hff
    have i1 : (k : Int) < (n : Int) := by omega
    have i2 : (n : Int) <= 1000 := by omega
    by_cases hs : D.getD k [] = t.data.toList
    ·have hb : (s.toList == t.toList) = true := by rw [ByteArray.toList_eq, ByteArray.toList_eq, E0.out, hs]; simp
     have hix : ixN D t.data.toList = k := by
      have hkd : k < D.length := by rw [HN.out]; exact hlt2
      have := ixN_drop D t.data.toList k (by omega) HK.out
      rw [this, List.drop_eq_getElem_cons hkd]
      have e : D[k] = t.data.toList := by simpa [List.getD, List.getElem?_eq_getElem hkd] using hs
      simp [ixN, e]
     rw [hb] at hp
     have HIX := Lib.hid hix; clear hix hs hb
     go_wp2_with (go_at_call 149; refine (hp _ hq').mono ?_; rintro e w2 ⟨rfl, hb2⟩)
     go_ret
     exact ⟨by rw [HIX.out]; rfl, HB.out.trans (hb2.mono HB.out.size)⟩
    ·have hb : (s.toList == t.toList) = false := by rw [ByteArray.toList_eq, ByteArray.toList_eq, E0.out]; simpa using hs
     rw [hb] at hp
     have HS := Lib.hid hs; clear hs hb
     go_wp2_with (go_at_call 149; refine (hp _ hq').mono ?_; rintro e w2 ⟨rfl, hb2⟩)
     go_roundg (n - (k + 1))
     case measure => have := HGK.out; omega
     case rel => exact ⟨k + 1, by go_num, rfl, hlt2, Lib.hid (fun i hi => by
      by_cases hik : i = k
      ·rw [hik]; exact HS.out
      ·exact HK.out i (by omega)), Lib.hid (HB.out.trans (hb2.mono HB.out.size))⟩
   ·have hkn : k = n := by omega
    subst hkn
    have hix : ixN D t.data.toList = -1 := by
     have := ixN_drop D t.data.toList k (by rw [HN.out]; exact Nat.le_refl _) HK.out
     rw [this, List.drop_eq_nil_of_le (by rw [HN.out]; exact Nat.le_refl _)]; rfl
    have HIX := Lib.hid hix; clear hix
    go_wp2_with fail
    go_ret
    exact ⟨by rw [HIX.out]; rfl, HB.out⟩
theorem defined_any (w : World) (S : Nat -> Prop) (v : Value) (D : List (List UInt8)) (t : ByteArray) (h : Names w S v D) (hS : ∀ g, S g -> g < w.heap.size) (hn : D.length <= 1000) :
  Calls Tryz.prog 137 #[v, .string t] w fun e w' => e = .returned (.int .i64 (ixN D t.data.toList)) /\ Below w.heap.size w w' := by
  have h' : Names (w.alloc (.cells #[.string t] 9)) S v D := h.keep (fun _ hg => hg) (fun g hg i x hx => by rw [World.cell?_alloc_past _ _ _ (hS g hg)]; exact hx)
  obtain ⟨A, c, rfl, -⟩ := h
  have hi := indexF_any (w.alloc (.cells #[.string t] 9)) S _ D w.heap.size t h' hn (by simp)
  have HI := Lib.hid hi; clear hi h' hS
  generalize D.length = n at *
  go_enter Tryz.func137, Tryz.ntmps137
  go_wp2_with fail
  refine HI.out.mono ?_
  rintro e w2 ⟨rfl, hb⟩
  go_wp2_with fail
  go_ret
  exact ⟨rfl, ((Below.refl _ _).alloc (Nat.le_refl _) _).trans (hb.mono (by simp))⟩
end Go.Proofs.YtfccnadbiglagaaGreat
