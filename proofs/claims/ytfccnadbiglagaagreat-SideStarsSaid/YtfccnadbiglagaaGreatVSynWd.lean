/- Contracts of syn's writing of patterns: what is said behind a part; whole patterns. Contracts of syn's writing of sets. Contracts of syn's writing of files. Contract of syn.Text. -/
import Derived.Test.YtfccnadbiglagaaGreatVSynWb
import Derived.Test.YtfccnadbiglagaaGreatVAny
import Derived.Test.YtfccnadbiglagaaGreatVSynE
import Derived.Test.YtfccnadbiglagaaGreatVPlA
set_option linter.unusedVariables false
set_option linter.unusedSimpArgs false
set_option maxRecDepth 100000
set_option maxHeartbeats 1000000
namespace Go.Proofs.YtfccnadbiglagaaGreat
open Go Go.RowKit Go.Proofs
def Pat.tail : Pat -> Bs
 | .star _ => [42]
 | .times _ lo hi => 123 :: (Lib.decDigits lo ++ 44 :: (Lib.decDigits hi ++ [125]))
 | .weight _ w => 32 :: 64 :: 32 :: Lib.decDigits w
 | _ => []
end Go.Proofs.YtfccnadbiglagaaGreat
namespace Go.Proofs.YtfccnadbiglagaaGreat
open Go Go.RowKit Go.Proofs
theorem TreeV.five_ {w : World} {S : Nat -> Prop} {v : Value} {k0 lo0 hi0 wt0 : Int} {nm0 : Bs} {l0 : List Tree} (h : TreeV false w S v (.mk k0 lo0 hi0 wt0 nm0 l0)) :
  ∃ (nm : ByteArray) (A : Option Addr) (n c : Nat), v = .agg #[.int .i64 k0, .int .i64 lo0, .int .i64 hi0, .string nm, .slice A n c] /\ nm.data.toList = nm0 /\ KidsV false w S A n c l0 := by
  obtain ⟨s, A, n, c, h1, h2, h3, h4, h5, h6, h7, h8⟩ := h
  exact ⟨s, A, n, c, h1, h2, ⟨h4, h5, h6, h7, h8⟩⟩
theorem childC_ok (w : World) (S : Nat -> Prop) (b o n c : Nat) (l : List Tree) (i : Nat) (hi : i < l.length) (h : KidsV false w S (some ⟨b, o, none⟩) n c l) (I : Int) (hI : (i : Int) = I) (hn9 : n <= 1000) :
  Calls Tryz.prog 118 #[.slice (some ⟨b, o, none⟩) n c, .int .i64 I] w fun e w' => ∃ v, e = .returned v /\ TreeV false w' S v l[i] /\ Below w.heap.size w w' := by
  subst hI
  obtain ⟨h1, h2, h3, h4, h5⟩ := h
  obtain ⟨hSb, hts⟩ := h5 b o rfl (by omega)
  obtain ⟨k, lo, hi', wt, nm, A', n', c', hc, ht⟩ := (hts.at_ i hi).value
  have cc : ∀ j v, [Value.int .i64 k, .int .i64 lo, .int .i64 hi', .string nm, .slice A' n' c'][j]? = some v -> w.cell? ⟨b, o + i * 5 + j, none⟩ = some v := fun j v hv => hc j v hv
  have v0 := cc 0 _ rfl; have v1 := cc 1 _ rfl; have v2 := cc 2 _ rfl; have v3 := cc 3 _ rfl; have v4 := cc 4 _ rfl
  rw [Nat.add_zero] at v0
  have hlt := World.block_lt_of_cell? w _ v0
  have ht' : ∀ w', Below w.heap.size w w' -> TreeV false w' S (.agg #[.int .i64 k, .int .i64 lo, .int .i64 hi', .string nm, .slice A' n' c']) l[i] := fun w' hb => ht.keep (fun _ h => h) (fun g _ j x hx => by rw [hb.cell (p := ⟨g, j, none⟩) (World.block_lt_of_cell? w _ hx)]; exact hx)
  have HT := Lib.hid ht'
  have i0 : (0 : Int) <= (i : Int) := Int.natCast_nonneg _
  have i1 : (i : Int) < (n : Int) := by omega
  unfold maxLen at h3
  clear hc ht ht' cc hts h5 h4
  go_enter Tryz.func118, Tryz.ntmps118
  go_wp2_with fail
  refine bodyPost_ret (v := .agg #[.int .i64 k, .int .i64 lo, .int .i64 hi', .string nm, .slice A' n' c']) (by simp [results, Tryz.results118, go_sem]) rfl ?_
  have hb : Below w.heap.size w (w.alloc (.cells #[.int .i64 k, .int .i64 lo, .int .i64 hi', .string nm, .slice A' n' c'] 70)) := (Below.refl _ _).alloc (Nat.le_refl _) _
  exact ⟨_, rfl, HT.out _ hb, hb⟩
theorem TreeV.kindedC {w : World} {S : Nat -> Prop} {v : Value} {t : Tree} (h : TreeV false w S v t) : ∃ (k lo hi : Int) (nm : ByteArray) (A : Option Addr) (n c : Nat), v = .agg #[.int .i64 k, .int .i64 lo, .int .i64 hi, .string nm, .slice A n c] /\ k = t.kind := by
 cases t
 obtain ⟨s, A, n, c, e, _⟩ := h
 exact ⟨_, _, _, s, A, n, c, e, rfl⟩
end Go.Proofs.YtfccnadbiglagaaGreat
namespace Go.Proofs.YtfccnadbiglagaaGreat
open Go Go.RowKit Go.Proofs
def DefsAt (w : World) (S : Nat -> Prop) (v : Value) (l : List (Bs × Tree)) : Prop :=
 ∃ (A : Option Addr) (c : Nat) (cs : List DCell), v = .slice A l.length c /\ l.length <= c /\ c <= maxLen /\ AForm A l.length /\ RowRel (DefR w S) cs l /\
   ∀ g o, A = some ⟨g, o, none⟩ -> ∀ i (hi : i < cs.length), S g /\ CellsAt w g (o + i * 6) cs[i].enc
def RulesAt (w : World) (S : Nat -> Prop) (v : Value) (l : List RuleT) : Prop :=
 ∃ (A : Option Addr) (c : Nat) (cs : List RCell), v = .slice A l.length c /\ l.length <= c /\ c <= maxLen /\ AForm A l.length /\ RowRel (RuleR w S) cs l /\
   ∀ g o, A = some ⟨g, o, none⟩ -> ∀ i (hi : i < cs.length), S g /\ CellsAt w g (o + i * 14) cs[i].enc
theorem DefsAt.keep {w w' : World} {S S' : Nat -> Prop} {v : Value} {l : List (Bs × Tree)} (h : DefsAt w S v l) (hS : ∀ g, S g -> g < w.heap.size -> S' g) (hk : ∀ g, S g -> ∀ i y, w.cell? ⟨g, i, none⟩ = some y -> w'.cell? ⟨g, i, none⟩ = some y) : DefsAt w' S' v l := by
 obtain ⟨A, c, cs, h1, h2, h3, h4, h5, h6⟩ := h
 refine ⟨A, c, cs, h1, h2, h3, h4, h5.mono fun x d q => q.keep hS hk, fun g o e i hi => ?_⟩
 obtain ⟨q1, q2⟩ := h6 g o e i hi
 exact ⟨hS g q1 (World.block_lt_of_cell? w _ (q2 0 _ rfl)), q2.keep (hk g q1)⟩
theorem RulesAt.keep {w w' : World} {S S' : Nat -> Prop} {v : Value} {l : List RuleT} (h : RulesAt w S v l) (hS : ∀ g, S g -> g < w.heap.size -> S' g) (hk : ∀ g, S g -> ∀ i y, w.cell? ⟨g, i, none⟩ = some y -> w'.cell? ⟨g, i, none⟩ = some y) : RulesAt w' S' v l := by
 obtain ⟨A, c, cs, h1, h2, h3, h4, h5, h6⟩ := h
 refine ⟨A, c, cs, h1, h2, h3, h4, h5.mono fun x d q => q.keep hS hk, fun g o e i hi => ?_⟩
 obtain ⟨q1, q2⟩ := h6 g o e i hi
 exact ⟨hS g q1 (World.block_lt_of_cell? w _ (q2 0 _ rfl)), q2.keep (hk g q1)⟩
theorem DefsAt.fr {B : Nat} {w w' : World} {v : Value} {l : List (Bs × Tree)} (h : DefsAt w (fun g => g < B) v l) (hb : Below B w w') : DefsAt w' (fun g => g < B) v l :=
 h.keep (fun _ h _ => h) (fun g hg i x hx => by rw [hb.cell (p := ⟨g, i, none⟩) hg]; exact hx)
theorem RulesAt.fr {B : Nat} {w w' : World} {v : Value} {l : List RuleT} (h : RulesAt w (fun g => g < B) v l) (hb : Below B w w') : RulesAt w' (fun g => g < B) v l :=
 h.keep (fun _ h _ => h) (fun g hg i x hx => by rw [hb.cell (p := ⟨g, i, none⟩) hg]; exact hx)
theorem own_aform {w : World} {B : Nat} {t : TypeId} {k : Nat} {v : Value} {n : Nat} {xs : List Value} (h : w.ownsRow B t k v n xs) : ∃ A c, v = .slice A n c /\ n <= c /\ c <= maxLen /\ AForm A n /\ ∀ g o, A = some ⟨g, o, none⟩ -> o = 0 /\ v.ownBlock = some g /\ ∀ j, j < n * k -> w.cell? ⟨g, j, none⟩ = xs[j]? := by
 have h' := h
 rcases h.2 with ⟨rfl, rfl⟩ | ⟨g, cap, cur, rfl, _, _, h1, h2, _⟩
 ·exact ⟨none, 0, rfl, Nat.le_refl _, Nat.zero_le _, ⟨fun _ => rfl, fun _ _ _ e => by cases e⟩, fun _ _ e => by cases e⟩
 ·exact ⟨_, cap, rfl, h1, h2, ⟨fun e => (by cases e), fun _ _ _ e => by cases e; rfl⟩, fun g' o e => by cases e; exact ⟨rfl, rfl, fun j hj => World.ownsRow.cellAt h' j hj⟩⟩
theorem DefsOwn.at_ {w : World} {B : Nat} {v : Value} {l : List (Bs × Tree)} (h : DefsOwn w B v l) : DefsAt w (fun g => g < w.heap.size) v l := by
 obtain ⟨cs, h1, h2⟩ := h
 obtain ⟨A, c, e1, e2, e3, e4, e5⟩ := own_aform h1
 refine ⟨A, c, cs, e1, e2, e3, e4, h2.mono fun x d q => q.keep (fun g _ hlt => hlt) (fun _ _ _ _ h => h), fun g o e i hi => ?_⟩
 obtain ⟨rfl, q1, q2⟩ := e5 g o e
 refine ⟨(own_below h1 g q1).2, fun j u hu => ?_⟩
 have hj : j < 6 := (List.getElem?_eq_some_iff.1 hu).1
 have hl := h2.len
 rw [Nat.zero_add, q2 (i * 6 + j) (by omega), flatMap_at DCell.enc 6 DCell.len cs i j hi hj]
 exact hu
theorem RulesOwn.at_ {w : World} {B : Nat} {v : Value} {l : List RuleT} (h : RulesOwn w B v l) : RulesAt w (fun g => g < w.heap.size) v l := by
 obtain ⟨cs, h1, h2⟩ := h
 obtain ⟨A, c, e1, e2, e3, e4, e5⟩ := own_aform h1
 refine ⟨A, c, cs, e1, e2, e3, e4, h2.mono fun x d q => q.keep (fun g _ hlt => hlt) (fun _ _ _ _ h => h), fun g o e i hi => ?_⟩
 obtain ⟨rfl, q1, q2⟩ := e5 g o e
 refine ⟨(own_below h1 g q1).2, fun j u hu => ?_⟩
 have hj : j < 14 := (List.getElem?_eq_some_iff.1 hu).1
 have hl := h2.len
 rw [Nat.zero_add, q2 (i * 14 + j) (by omega), flatMap_at RCell.enc 14 RCell.len cs i j hi hj]
 exact hu
end Go.Proofs.YtfccnadbiglagaaGreat
namespace Go.Proofs.YtfccnadbiglagaaGreat
open Go Go.RowKit Go.Proofs
theorem CellsAt.at_ {w : World} {b o : Nat} {cs : List Value} (h : CellsAt w b o cs) (i : Nat) (v : Value) (hv : cs[i]? = some v) : w.cell? ⟨b, o + i, none⟩ = some v := h i v hv
end Go.Proofs.YtfccnadbiglagaaGreat
