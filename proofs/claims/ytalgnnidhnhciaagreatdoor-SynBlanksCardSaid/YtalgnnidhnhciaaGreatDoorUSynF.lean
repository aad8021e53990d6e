/- Whole files: read as they were written, whatever stands between their signs. Contracts of syn's writing of files. -/
import Derived.Test.YtalgnnidhnhciaaGreatDoorShort
import Derived.Test.YtalgnnidhnhciaaGreatDoorUSynL
import Derived.Test.YtalgnnidhnhciaaGreatDoorUSynWd
import Derived.Test.YtalgnnidhnhciaaGreatDoorUSynSf
set_option linter.unusedVariables false
set_option linter.unusedSimpArgs false
set_option maxRecDepth 100000
set_option maxHeartbeats 8000000
namespace Go.Proofs.YtalgnnidhnhciaaGreatDoor
open Go
def DefP.toks (d : DefP) : Toks := ⟨262, wClass, 0⟩ :: ⟨258, d.name, 0⟩ :: mkT 61 :: (d.c.toks ++ [mkT 59])
def RuleP.toks (r : RuleP) : Toks := ⟨263 + r.cat, catW r.cat, 0⟩ :: num r.cost :: mkT 58 :: (r.left.toks ++ mkT 47 :: (r.right.toks ++ [mkT 59]))
def defsToks : List DefP -> Toks
 | [] => []
 | d :: r => d.toks ++ defsToks r
def rulesToks : List RuleP -> Toks
 | [] => []
 | d :: r => d.toks ++ rulesToks r
def DefP.tree (d : DefP) : Bs × Tree := (d.name, d.c.tree)
def RuleP.tree (r : RuleP) : RuleT := ⟨r.cat, r.cost, r.left.tree, r.right.tree⟩
def DefP.Ok (D : List Bs) (d : DefP) : Prop := nameOk d.name /\ d.name ∉ D /\ d.c.Ok D /\ d.c.deep <= 12
def defsOk : List Bs -> List DefP -> Prop
 | _, [] => True
 | D, d :: r => d.Ok D /\ defsOk (D ++ [d.name]) r
def RuleP.Ok (D : List Bs) (r : RuleP) : Prop := r.cat <= 2 /\ r.cost <= 1000000 /\ r.left.Ok D true /\ r.left.deep <= 12 /\ r.right.Ok D false /\ r.right.deep <= 12
theorem good_pat (p : Pat) (l : Toks) : good (p.toks ++ l) := by
 cases p with
 | none_ => exact good_cons (by simp) (by simp)
 | set s => exact good_cons (by simp) (by simp)
 | any_ => exact good_cons (by simp) (by simp)
 | cat a b => simp only [Pat.toks, List.append_assoc]; exact good_wrap _ _
 | alt a b => simp only [Pat.toks, List.append_assoc]; exact good_wrap _ _
 | star a => simp only [Pat.toks, List.append_assoc]; exact good_wrap _ _
 | times a lo hi => simp only [Pat.toks, List.append_assoc]; exact good_wrap _ _
 | weight a w => simp only [Pat.toks, List.append_assoc]; exact good_wrap _ _
theorem good_cls (q : Cls) (l : Toks) : good (q.toks ++ l) := by
 cases q with
 | range lo hi => exact good_wrapC (.range lo hi) l
 | name s => exact good_wrapC (.name s) l
 | any_ => exact good_wrapC .any_ l
 | not_ c => exact good_cons (by simp) (by simp)
 | or_ a b => simp only [Cls.toks, List.append_assoc]; exact good_wrapC _ _
 | and_ a b => simp only [Cls.toks, List.append_assoc]; exact good_wrapC _ _
 | less a b => simp only [Cls.toks, List.append_assoc]; exact good_wrapC _ _
theorem endR_mk (c : Nat) (l : Toks) (h : c ≠ 257 /\ c ≠ 266 /\ c ≠ 42 /\ c ≠ 123 /\ c ≠ 64 /\ c ≠ 258 /\ c ≠ 261 /\ c ≠ 46 /\ c ≠ 40 /\ c ≠ 124) : endR (mkT c :: l) := by
 obtain ⟨a1, a2, a3, a4, a5, a6, a7, a8, a9, a10⟩ := h
 exact ⟨⟨good_cons a1 a2, a3, a4, a5⟩, by simp [begB, a6, a7, a8, a9], a10⟩
section
variable (F : Nat) (hF : 2 <= F)
include hF
theorem def_back (D : List Bs) (d : DefP) (h : d.Ok D) (l : Toks) (hl : good l) : defR F D (d.toks ++ l) = .ok (d.tree, l) := by
 obtain ⟨h1, h2, h3, h4⟩ := h
 have hc := (class_back F D hF d.c h3).1 12 (mkT 59 :: l) h4 ⟨⟨good_cons (by simp) (by simp), by simp⟩, by simp, by simp, by simp⟩
 have e : d.toks ++ l = ⟨262, wClass, 0⟩ :: ⟨258, d.name, 0⟩ :: mkT 61 :: (d.c.toks ++ mkT 59 :: l) := by simp [DefP.toks]
 rw [e]
 unfold defR
 simp only [nxt_cons, chk_good (good_cons (t := ⟨258, d.name, 0⟩) (by simp) (by simp)), into_ok, kd_cons, hd_cons, beq_self_eq_true, Bool.true_and, List.contains_iff_mem, h2, decide_false, Bool.false_eq_true, if_false]
 simp [tk, chk_good (good_cls d.c (mkT 59 :: l)), hc, chk_good hl, DefP.tree]
theorem defs_back (defs : List DefP) : ∀ (acc : List (Bs × Tree)) (k : Nat) (l : Toks), defsOk (acc.map Prod.fst) defs -> acc.length + defs.length <= 12 -> defs.length < k -> good l -> kd l ≠ 262 ->
  defsR F k acc (defsToks defs ++ l) = .ok (acc ++ defs.map DefP.tree, l) := by
  induction defs with
  | nil =>
    intro acc k l _ _ hk hg hl
    obtain ⟨k', rfl⟩ : ∃ k', k = k' + 1 := ⟨k - 1, by simp at hk; omega⟩
    simp [defsToks, defsR, hl]
  | cons d r ih =>
    intro acc k l hok hn hk hg hl
    obtain ⟨k', rfl⟩ : ∃ k', k = k' + 1 := ⟨k - 1, by omega⟩
    simp only [List.length_cons] at hn hk
    obtain ⟨o1, o2⟩ := hok
    have hgr : good (defsToks r ++ l) := by
     cases r with
     | nil => exact hg
     | cons x y => exact good_cons (by simp) (by simp)
    have hd := def_back F hF (acc.map Prod.fst) d o1 (defsToks r ++ l) hgr
    have e : defsToks (d :: r) ++ l = d.toks ++ (defsToks r ++ l) := by simp [defsToks]
    rw [e, defsR]
    have hk0 : kd (d.toks ++ (defsToks r ++ l)) = 262 := rfl
    rw [hk0, hd, then_ok, ih (acc ++ [d.tree]) k' l (by simpa [DefP.tree] using o2) (by simp; omega) (by omega) hg hl]
    have : acc.length ≠ 12 := by omega
    simp [this]
theorem rule_back (D : List Bs) (r : RuleP) (h : r.Ok D) (l : Toks) (hl : good l) : ruleR F D (r.toks ++ l) = .ok (r.tree, l) := by
 obtain ⟨h1, h2, h3, h4, h5, h6⟩ := h
 have hx := (rex_back F D true hF r.left h3).1 12 (mkT 47 :: (r.right.toks ++ mkT 59 :: l)) h4 (endR_mk 47 _ (by decide))
 have hy := (rex_back F D false hF r.right h5).1 12 (mkT 59 :: l) h6 (endR_mk 59 _ (by decide))
 have e : r.toks ++ l = ⟨263 + r.cat, catW r.cat, 0⟩ :: num r.cost :: mkT 58 :: (r.left.toks ++ mkT 47 :: (r.right.toks ++ mkT 59 :: l)) := by simp [RuleP.toks]
 have hc : (263 + r.cat - 263 : Nat) = r.cat := by omega
 rw [e]
 unfold ruleR
 simp [tk, chk_good (good_pat r.left (mkT 47 :: (r.right.toks ++ mkT 59 :: l))), chk_good (good_pat r.right (mkT 59 :: l)), hx, hy, chk_good hl, RuleP.tree, hc]
theorem rules_back (D : List Bs) (rules : List RuleP) : ∀ (acc : List RuleT) (k : Nat) (l : Toks), (∀ r ∈ rules, r.Ok D) -> acc.length + rules.length <= 20 -> rules.length < k -> good l -> kd l = 256 ->
  rulesR F D k acc (rulesToks rules ++ l) = .ok (acc ++ rules.map RuleP.tree, l) := by
  induction rules with
  | nil =>
    intro acc k l _ _ hk hg hl
    obtain ⟨k', rfl⟩ : ∃ k', k = k' + 1 := ⟨k - 1, by simp at hk; omega⟩
    simp [rulesToks, rulesR, hl]
  | cons r rs ih =>
    intro acc k l hok hn hk hg hl
    obtain ⟨k', rfl⟩ : ∃ k', k = k' + 1 := ⟨k - 1, by omega⟩
    simp only [List.length_cons] at hn hk
    have o1 := hok r (by simp)
    have hgr : good (rulesToks rs ++ l) := by
     cases rs with
     | nil => exact hg
     | cons x y =>
       have := (hok x (by simp)).1
       exact good_cons (by simp; omega) (by simp; omega)
    have hd := rule_back F hF D r o1 (rulesToks rs ++ l) hgr
    have e : rulesToks (r :: rs) ++ l = r.toks ++ (rulesToks rs ++ l) := by simp [rulesToks]
    have hk0 : kd (r.toks ++ (rulesToks rs ++ l)) = 263 + r.cat := rfl
    have hc := o1.1
    rw [e, rulesR, hk0, hd, then_ok, ih (acc ++ [r.tree]) k' l (fun x hx => hok x (by simp [hx])) (by simp; omega) (by omega) hg hl]
    have h1 : Nat.ble 263 (263 + r.cat) = true := Nat.ble_eq_true_of_le (by omega)
    have h2 : Nat.ble (263 + r.cat) 265 = true := Nat.ble_eq_true_of_le (by omega)
    have : acc.length ≠ 20 := by omega
    simp [h1, h2, this]
theorem file_back (defs : List DefP) (rules : List RuleP) (hd : defsOk [] defs) (hr : ∀ r ∈ rules, r.Ok (defs.map DefP.name)) (h1 : defs.length <= 12) (h2 : rules.length <= 20) :
  fileR F (defsToks defs ++ (rulesToks rules ++ [mkT 256])) = .ok ((defs.map DefP.tree, rules.map RuleP.tree), [mkT 256]) := by
  have g1 : good (rulesToks rules ++ [mkT 256]) /\ kd (rulesToks rules ++ [mkT 256]) ≠ 262 := by
   cases rules with
   | nil => exact ⟨good_cons (by simp) (by simp), by simp [rulesToks]⟩
   | cons x y =>
     have hx := (hr x (by simp)).1
     have e : kd (rulesToks (x :: y) ++ [mkT 256]) = 263 + x.cat := rfl
     refine ⟨⟨by rw [e]; omega, by rw [e]; omega⟩, by rw [e]; omega⟩
  have g0 : good (defsToks defs ++ (rulesToks rules ++ [mkT 256])) := by
   cases defs with
   | nil => exact g1.1
   | cons x y => exact good_cons (by simp) (by simp)
  have hds := defs_back F hF defs [] 13 (rulesToks rules ++ [mkT 256]) (by simpa using hd) (by simpa using h1) (by omega) g1.1 g1.2
  have hmap : (defs.map DefP.tree).map Prod.fst = defs.map DefP.name := by simp [DefP.tree]
  have hrs := rules_back F hF (defs.map DefP.name) rules [] 21 [mkT 256] hr (by simpa using h2) (by omega) (good_cons (by simp) (by simp)) rfl
  unfold fileR
  rw [chk_good g0, into_ok, hds, then_ok]
  simp only [List.nil_append, hmap] at hrs ⊢
  rw [hrs, then_ok]
  simp
end
theorem parse_of_toks (t : Bs) (defs : List DefP) (rules : List RuleP) (hd : defsOk [] defs) (hr : ∀ r ∈ rules, r.Ok (defs.map DefP.name)) (h1 : defs.length <= 12) (h2 : rules.length <= 20)
  (ht : toksT t = defsToks defs ++ (rulesToks rules ++ [mkT 256])) (hl : t.length <= 4000) : parseT t = ((defs.map DefP.tree, rules.map RuleP.tree), 0, 0) := by
  by_cases h0 : t = []
  ·subst h0
   have : defs = [] /\ rules = [] := by
    rw [toksT_nil] at ht
    cases defs with
    | nil =>
      cases rules with
      | nil => exact ⟨rfl, rfl⟩
      | cons x y => simp [defsToks, rulesToks, RuleP.toks] at ht
    | cons x y => simp [defsToks, DefP.toks] at ht
   obtain ⟨rfl, rfl⟩ := this
   rfl
  ·have hp : 0 < t.length := List.length_pos_iff.2 h0
   unfold parseT
   rw [blt_no hl]
   simp only [Bool.false_eq_true, if_false]
   have := file_back (t.length + 1) (by omega) defs rules hd hr h1 h2
   rw [<- ht] at this
   unfold toksT at this
   rw [this]
theorem class_word (u : Bs) : toksT (wClass ++ 32 :: u) = ⟨262, wClass, 0⟩ :: toksT u := by
 rw [toksT_word wClass _ ⟨⟨99, _, rfl, by decide⟩, by decide, by decide⟩ (sep_cons (by decide)), toksT_blank]; rfl
theorem cat_word (c : Nat) (hc : c <= 2) (u : Bs) : toksT (catW c ++ 32 :: u) = ⟨263 + c, catW c, 0⟩ :: toksT u := by
 have : c = 0 \/ c = 1 \/ c = 2 := by omega
 rcases this with rfl | rfl | rfl
 ·rw [toksT_word (catW 0) _ ⟨⟨108, _, rfl, by decide⟩, by decide, by decide⟩ (sep_cons (by decide)), toksT_blank]; rfl
 ·rw [toksT_word (catW 1) _ ⟨⟨104, _, rfl, by decide⟩, by decide, by decide⟩ (sep_cons (by decide)), toksT_blank]; rfl
 ·rw [toksT_word (catW 2) _ ⟨⟨101, _, rfl, by decide⟩, by decide, by decide⟩ (sep_cons (by decide)), toksT_blank]; rfl
theorem def_toks {D : List Bs} (hD : ∀ s ∈ D, nameOk s) (d : DefP) (h : d.Ok D) (u : Bs) : toksT (d.text ++ u) = d.toks ++ toksT u := by
 have e : d.text ++ u = wClass ++ 32 :: (d.name ++ 32 :: 61 :: 32 :: (d.c.text ++ 59 :: 10 :: u)) := by simp [DefP.text]
 rw [e, class_word, toksT_word d.name _ h.1.1 (sep_cons (by decide)), h.1.2, toksT_blank, m_ _ (by decide), toksT_blank, cls_toks hD d.c h.2.2.1 _ (sep_cons (by decide)), m_ _ (by decide), toksT_line]
 simp [DefP.toks, mkT]
theorem defs_toks (defs : List DefP) : ∀ (D : List Bs), (∀ s ∈ D, nameOk s) -> defsOk D defs -> ∀ u, toksT (defsText defs ++ u) = defsToks defs ++ toksT u := by
 induction defs with
 | nil => intro D _ _ u; rfl
 | cons d r ih =>
   intro D hD h u
   have e : defsText (d :: r) ++ u = d.text ++ (defsText r ++ u) := by simp [defsText]
   rw [e, def_toks hD d h.1, ih (D ++ [d.name]) (fun s hs => by
    rcases List.mem_append.1 hs with hs | hs
    ·exact hD s hs
    ·simp at hs; rw [hs]; exact h.1.1) h.2 u]
   simp [defsToks]
theorem rule_toks {D : List Bs} (hD : ∀ s ∈ D, nameOk s) (r : RuleP) (h : r.Ok D) (u : Bs) : toksT (r.text ++ u) = r.toks ++ toksT u := by
 obtain ⟨h1, h2, h3, h4, h5, h6⟩ := h
 have e : r.text ++ u = catW r.cat ++ 32 :: (Lib.decDigits r.cost ++ 32 :: 58 :: 32 :: (r.left.text ++ 32 :: 47 :: 32 :: (r.right.text ++ 59 :: 10 :: u))) := by simp [RuleP.text]
 rw [e, cat_word _ h1, toksT_num _ _ h2 (sep_cons (by decide)), toksT_blank, m_ _ (by decide), toksT_blank, pat_toks hD r.left h3 _ (sep_cons (by decide)), toksT_blank, m_ _ (by decide), toksT_blank,
  pat_toks hD r.right h5 _ (sep_cons (by decide)), m_ _ (by decide), toksT_line]
 simp [RuleP.toks, mkT]
theorem rules_toks {D : List Bs} (hD : ∀ s ∈ D, nameOk s) (rules : List RuleP) (h : ∀ r ∈ rules, r.Ok D) (u : Bs) : toksT (rulesText rules ++ u) = rulesToks rules ++ toksT u := by
 induction rules with
 | nil => rfl
 | cons r rs ih =>
   have e : rulesText (r :: rs) ++ u = r.text ++ (rulesText rs ++ u) := by simp [rulesText]
   rw [e, rule_toks hD r (h r (by simp)), ih (fun x hx => h x (by simp [hx]))]
   simp [rulesToks]
theorem names_ok (defs : List DefP) : ∀ D, (∀ s ∈ D, nameOk s) -> defsOk D defs -> ∀ s ∈ D ++ defs.map DefP.name, nameOk s := by
 induction defs with
 | nil => intro D hD _ s hs; exact hD s (by simpa using hs)
 | cons d r ih =>
   intro D hD h s hs
   refine ih (D ++ [d.name]) (fun s hs => ?_) h.2 s (by simpa using hs)
   rcases List.mem_append.1 hs with hs | hs
   ·exact hD s hs
   ·simp at hs; rw [hs]; exact h.1.1
end Go.Proofs.YtalgnnidhnhciaaGreatDoor
namespace Go.Proofs.YtalgnnidhnhciaaGreatDoor
open Go Go.RowKit Go.Proofs
def DefsAt (w : World) (S : Nat -> Prop) (v : Value) (l : List (Bs × Tree)) : Prop :=
 ∃ (A : Option Addr) (c : Nat) (cs : List DCell), v = .slice A l.length c /\ l.length <= c /\ c <= maxLen /\ AForm A l.length /\ RowRel (DefR w S) cs l /\
   ∀ g o, A = some ⟨g, o, none⟩ -> ∀ i (hi : i < cs.length), S g /\ CellsAt w g (o + i * 6) cs[i].enc
def RulesAt (w : World) (S : Nat -> Prop) (v : Value) (l : List RuleT) : Prop :=
 ∃ (A : Option Addr) (c : Nat) (cs : List RCell), v = .slice A l.length c /\ l.length <= c /\ c <= maxLen /\ AForm A l.length /\ RowRel (RuleR w S) cs l /\
   ∀ g o, A = some ⟨g, o, none⟩ -> ∀ i (hi : i < cs.length), S g /\ CellsAt w g (o + i * 14) cs[i].enc
theorem DefsAt.keep {w w' : World} {S S' : Nat -> Prop} {v : Value} {l : List (Bs × Tree)} (h : DefsAt w S v l) (hS : ∀ g, S g -> g < w.heap.size -> S' g) (hk : ∀ g, S g -> ∀ i y, w.cell? ⟨g, i, none⟩ = some y -> w'.cell? ⟨g, i, none⟩ = some y) : DefsAt w' S' v l := by
 obtain ⟨A, c, cs, h1, h2, h3, h4, h5, h6⟩ := h
 refine ⟨A, c, cs, h1, h2, h3, h4, h5.mono fun x d q => q.keep hS hk, fun g o e i hi => ?_⟩
 obtain ⟨q1, q2⟩ := h6 g o e i hi
 exact ⟨hS g q1 (World.block_lt_of_cell? w _ (q2 0 _ rfl)), q2.keep (hk g q1)⟩
theorem RulesAt.keep {w w' : World} {S S' : Nat -> Prop} {v : Value} {l : List RuleT} (h : RulesAt w S v l) (hS : ∀ g, S g -> g < w.heap.size -> S' g) (hk : ∀ g, S g -> ∀ i y, w.cell? ⟨g, i, none⟩ = some y -> w'.cell? ⟨g, i, none⟩ = some y) : RulesAt w' S' v l := by
 obtain ⟨A, c, cs, h1, h2, h3, h4, h5, h6⟩ := h
 refine ⟨A, c, cs, h1, h2, h3, h4, h5.mono fun x d q => q.keep hS hk, fun g o e i hi => ?_⟩
 obtain ⟨q1, q2⟩ := h6 g o e i hi
 exact ⟨hS g q1 (World.block_lt_of_cell? w _ (q2 0 _ rfl)), q2.keep (hk g q1)⟩
theorem DefsAt.fr {B : Nat} {w w' : World} {v : Value} {l : List (Bs × Tree)} (h : DefsAt w (fun g => g < B) v l) (hb : Below B w w') : DefsAt w' (fun g => g < B) v l :=
 h.keep (fun _ h _ => h) (fun g hg i x hx => by rw [hb.cell (p := ⟨g, i, none⟩) hg]; exact hx)
theorem RulesAt.fr {B : Nat} {w w' : World} {v : Value} {l : List RuleT} (h : RulesAt w (fun g => g < B) v l) (hb : Below B w w') : RulesAt w' (fun g => g < B) v l :=
 h.keep (fun _ h _ => h) (fun g hg i x hx => by rw [hb.cell (p := ⟨g, i, none⟩) hg]; exact hx)
theorem own_aform {w : World} {B : Nat} {t : TypeId} {k : Nat} {v : Value} {n : Nat} {xs : List Value} (h : w.ownsRow B t k v n xs) : ∃ A c, v = .slice A n c /\ n <= c /\ c <= maxLen /\ AForm A n /\ ∀ g o, A = some ⟨g, o, none⟩ -> o = 0 /\ v.ownBlock = some g /\ ∀ j, j < n * k -> w.cell? ⟨g, j, none⟩ = xs[j]? := by
 have h' := h
 rcases h.2 with ⟨rfl, rfl⟩ | ⟨g, cap, cur, rfl, _, _, h1, h2, _⟩
 ·exact ⟨none, 0, rfl, Nat.le_refl _, Nat.zero_le _, ⟨fun _ => rfl, fun _ _ _ e => by cases e⟩, fun _ _ e => by cases e⟩
 ·exact ⟨_, cap, rfl, h1, h2, ⟨fun e => (by cases e), fun _ _ _ e => by cases e; rfl⟩, fun g' o e => by cases e; exact ⟨rfl, rfl, fun j hj => World.ownsRow.cellAt h' j hj⟩⟩
theorem DefsOwn.at_ {w : World} {B : Nat} {v : Value} {l : List (Bs × Tree)} (h : DefsOwn w B v l) : DefsAt w (fun g => g < w.heap.size) v l := by
 obtain ⟨cs, h1, h2⟩ := h
 obtain ⟨A, c, e1, e2, e3, e4, e5⟩ := own_aform h1
 refine ⟨A, c, cs, e1, e2, e3, e4, h2.mono fun x d q => q.keep (fun g _ hlt => hlt) (fun _ _ _ _ h => h), fun g o e i hi => ?_⟩
 obtain ⟨rfl, q1, q2⟩ := e5 g o e
 refine ⟨(own_below h1 g q1).2, fun j u hu => ?_⟩
 have hj : j < 6 := (List.getElem?_eq_some_iff.1 hu).1
 have hl := h2.len
 rw [Nat.zero_add, q2 (i * 6 + j) (by omega), flatMap_at DCell.enc 6 DCell.len cs i j hi hj]
 exact hu
theorem RulesOwn.at_ {w : World} {B : Nat} {v : Value} {l : List RuleT} (h : RulesOwn w B v l) : RulesAt w (fun g => g < w.heap.size) v l := by
 obtain ⟨cs, h1, h2⟩ := h
 obtain ⟨A, c, e1, e2, e3, e4, e5⟩ := own_aform h1
 refine ⟨A, c, cs, e1, e2, e3, e4, h2.mono fun x d q => q.keep (fun g _ hlt => hlt) (fun _ _ _ _ h => h), fun g o e i hi => ?_⟩
 obtain ⟨rfl, q1, q2⟩ := e5 g o e
 refine ⟨(own_below h1 g q1).2, fun j u hu => ?_⟩
 have hj : j < 14 := (List.getElem?_eq_some_iff.1 hu).1
 have hl := h2.len
 rw [Nat.zero_add, q2 (i * 14 + j) (by omega), flatMap_at RCell.enc 14 RCell.len cs i j hi hj]
 exact hu
theorem catWord_ok (c : Nat) (w : World) : Calls Tryz.prog 86 #[.int .i64 c] w fun e w' => e = .returned (.string ⟨(catW c).toArray⟩) /\ w' = w := by
 by_cases h0 : c = 0
 ·subst h0
  go_enter Tryz.func86, Tryz.ntmps86
  go_wp2_with fail
  go_ret
  exact ⟨rfl, rfl⟩
 ·by_cases h1 : c = 1
  ·subst h1
   go_enter Tryz.func86, Tryz.ntmps86
   go_wp2_with fail
   go_ret
   exact ⟨rfl, rfl⟩
  ·have e : catW c = wEmergency := by unfold catW; rw [if_neg h0, if_neg h1]
   have q0 : ((c : Int) == 0) = false := by simp; omega
   have q1 : ((c : Int) == 1) = false := by simp; omega
   rw [e]
   clear e h0 h1
   go_enter Tryz.func86, Tryz.ntmps86
   go_wp2_with fail
   go_ret
   exact ⟨rfl, rfl⟩
theorem def_w (d : DefP) (hcd : d.c.Codes) (B b : Nat) (l : Bs) (w : World) (x : DCell) (hx : DefR w (fun g => g < B) x d.tree) (h : BldW B b l w) (hlen : l.length + d.text.length <= 1000000000) (hBw : B <= w.heap.size) :
  Calls Tryz.prog 52 #[.pointer (some ⟨b, 0, none⟩), .agg x.enc.toArray] w (WEnd B b (l ++ d.text) w) := by
  have hlt := h.lt
  obtain ⟨nm0, k, lo, hi, nm, A, n, c⟩ := x
  obtain ⟨hn00, hT00⟩ := hx
  have hT : TreeV false w (fun g => g < B) (.agg #[.int .i64 k, .int .i64 lo, .int .i64 hi, .string nm, .slice A n c]) d.c.tree := hT00
  have hn0 : nm0.data.toList = d.name := hn00
  clear hn00 hT00
  have hv : (.agg (DCell.enc ⟨nm0, k, lo, hi, nm, A, n, c⟩).toArray : Value) = .agg #[.string nm0, .int .i64 k, .int .i64 lo, .int .i64 hi, .string nm, .slice A n c] := rfl
  rw [hv]
  obtain ⟨P, hP⟩ : ∃ P, d.c.text = P := ⟨_, rfl⟩
  have ht : d.text = (99 :: 108 :: 97 :: 115 :: 115 :: 32 :: (nm0.data.toList ++ [32, 61, 32])) ++ (P ++ [59, 10]) := by
   rw [DefP.text, hn0, hP]; simp [wClass]
  rw [ht] at hlen ⊢
  simp only [List.length_cons, List.length_append, List.length_nil] at hlen
  have hcat : catS [⟨#[99, 108, 97, 115, 115, 32]⟩, nm0, ⟨#[32, 61, 32]⟩] = 99 :: 108 :: 97 :: 115 :: 115 :: 32 :: (nm0.data.toList ++ [32, 61, 32]) := by simp [catS]
  have hF0 := (WFr.refl B b w).alloc hBw (.cells #[.string nm0, .int .i64 k, .int .i64 lo, .int .i64 hi, .string nm, .slice A n c] 37)
  have hbox := Blk.new w 37 #[.string nm0, .int .i64 k, .int .i64 lo, .int .i64 hi, .string nm, .slice A n c]
  have hc := all_new B b l [⟨#[99, 108, 97, 115, 115, 32]⟩, nm0, ⟨#[32, 61, 32]⟩] #[.string ⟨#[99, 108, 97, 115, 115, 32]⟩, .string nm0, .string ⟨#[32, 61, 32]⟩] rfl 3 rfl _ (h.alloc (.cells #[.string nm0, .int .i64 k, .int .i64 lo, .int .i64 hi, .string nm, .slice A n c] 37)) (by rw [hcat]; simp only [List.length_cons, List.length_append, List.length_nil]; omega) (by omega) _ hcat (w.heap.size + 1) (by simp)
  have hcl := class_w d.c hcd
  rw [hP] at hcl
  have HC := Lib.hid hc; have HF := Lib.hid hF0; have HT := Lib.hid (hT.fr hF0.below); have HBX := Lib.hid hbox; have HCL := Lib.hid hcl
  clear hc hF0 hT h hbox hcl hcd hn0 hcat ht hP hv
  go_enter Tryz.func52, Tryz.ntmps52
  go_wp2_with fail
  refine HC.out.mono ?_
  rintro e w1 ⟨rfl, h1, hF1⟩
  have hbx := hF1.keeps w.heap.size _ _ HBX.out (by omega) (by decide)
  have v0 := Blk.cell hbx 0; have v1 := Blk.cell hbx 1; have v2 := Blk.cell hbx 2; have v3 := Blk.cell hbx 3; have v4 := Blk.cell hbx 4; have v5 := Blk.cell hbx 5
  simp only [List.getElem?_toArray, List.getElem?_cons_zero, List.getElem?_cons_succ] at v0 v1 v2 v3 v4 v5
  have hF1' := HF.out.trans hF1
  have hr1 := HCL.out B b _ w1 _ (HT.out.fr hF1.below) h1 (by simp only [List.length_cons, List.length_append, List.length_nil]; omega) (by have := hF1'.grows; omega)
  have HR1 := Lib.hid hr1; have HF1 := Lib.hid hF1'
  clear hr1 h1 hF1 hF1' hbx HC HF
  go_wp2_with fail
  refine HR1.out.mono ?_
  rintro e w2 ⟨rfl, h2, hF2⟩
  have hc := one_new (⟨#[59, 10]⟩ : ByteArray) h2 [59, 10] rfl (by simp only [List.length_cons, List.length_append, List.length_nil]; omega) _ rfl
  have HC := Lib.hid hc; have HF2 := Lib.hid (HF1.out.trans hF2)
  clear hc h2 hF2 HR1 HF1 v0 v1 v2 v3 v4 v5
  go_wp2_with fail
  refine HC.out.mono ?_
  rintro e w3 ⟨rfl, h3, hF3⟩
  have H3 := Lib.hid h3; have HF3 := Lib.hid (HF2.out.trans hF3)
  clear h3 hF3
  go_wp2_with fail
  go_end0
  refine ⟨rfl, ?_, HF3.out⟩
  have := H3.out
  simpa using this
def RuleP.Small (r : RuleP) : Prop := r.cost < 100 /\ r.left.Small /\ r.right.Small
theorem rule_w (r : RuleP) (hs : r.Small) (B b : Nat) (l : Bs) (w : World) (x : RCell) (hx : RuleR w (fun g => g < B) x r.tree) (h : BldW B b l w) (hlen : l.length + r.text.length <= 1000000000) (hBw : B <= w.heap.size) :
  Calls Tryz.prog 53 #[.pointer (some ⟨b, 0, none⟩), .agg x.enc.toArray] w (WEnd B b (l ++ r.text) w) := by
  have hlt := h.lt
  obtain ⟨cat, cost, k1, lo1, hi1, wt1, nm1, A1, n1, c1, k2, lo2, hi2, wt2, nm2, A2, n2, c2⟩ := x
  obtain ⟨hca0, hco0, hT10, hT20⟩ := hx
  have hT1 : TreeV true w (fun g => g < B) (.agg #[.int .i64 k1, .int .i64 lo1, .int .i64 hi1, .int .i64 wt1, .string nm1, .slice A1 n1 c1]) r.left.tree := hT10
  have hT2 : TreeV true w (fun g => g < B) (.agg #[.int .i64 k2, .int .i64 lo2, .int .i64 hi2, .int .i64 wt2, .string nm2, .slice A2 n2 c2]) r.right.tree := hT20
  have hca : cat = (r.cat : Int) := hca0
  have hco : cost = (r.cost : Int) := hco0
  clear hca0 hco0 hT10 hT20
  have hix : ∀ W, Calls Tryz.prog 86 #[.int .i64 cat] W fun e w' => e = .returned (.string ⟨(catW r.cat).toArray⟩) /\ w' = W := fun W => by rw [hca]; exact catWord_ok r.cat W
  have hiy : ∀ W, Calls Tryz.prog 87 #[.int .i64 cost] W fun e w' => e = .returned (.string ⟨(Lib.decDigits r.cost).toArray⟩) /\ w' = W := fun W => by rw [hco]; exact Tryz.strconv_Itoa_small r.cost hs.1 W
  have hr1 := rex_ok r.left hs.2.1
  have hr2 := rex_ok r.right hs.2.2
  have hv : (.agg (RCell.enc ⟨cat, cost, k1, lo1, hi1, wt1, nm1, A1, n1, c1, k2, lo2, hi2, wt2, nm2, A2, n2, c2⟩).toArray : Value) = .agg #[.int .i64 cat, .int .i64 cost, .int .i64 k1, .int .i64 lo1, .int .i64 hi1, .int .i64 wt1, .string nm1, .slice A1 n1 c1, .int .i64 k2, .int .i64 lo2, .int .i64 hi2, .int .i64 wt2, .string nm2, .slice A2 n2 c2] := rfl
  rw [hv]
  obtain ⟨P, hP⟩ : ∃ P, r.left.text = P := ⟨_, rfl⟩
  obtain ⟨R, hR⟩ : ∃ R, r.right.text = R := ⟨_, rfl⟩
  obtain ⟨X, hX⟩ : ∃ X, catW r.cat = X := ⟨_, rfl⟩
  obtain ⟨Y, hY⟩ : ∃ Y, Lib.decDigits r.cost = Y := ⟨_, rfl⟩
  have ht : r.text = (X ++ 32 :: (Y ++ [32, 58, 32])) ++ (P ++ ([32, 47, 32] ++ (R ++ [59, 10]))) := by
   rw [RuleP.text, hP, hR, hX, hY]; simp
  rw [ht] at hlen ⊢
  rw [hP] at hr1
  rw [hR] at hr2
  rw [hX] at hix
  rw [hY] at hiy
  simp only [List.length_cons, List.length_append, List.length_nil] at hlen
  have hcat : catS [⟨X.toArray⟩, ⟨#[32]⟩, ⟨Y.toArray⟩, ⟨#[32, 58, 32]⟩] = X ++ 32 :: (Y ++ [32, 58, 32]) := by simp [catS]
  have hF0 := ((WFr.refl B b w).alloc hBw (.cells #[.int .i64 cat, .int .i64 cost, .int .i64 k1, .int .i64 lo1, .int .i64 hi1, .int .i64 wt1, .string nm1, .slice A1 n1 c1, .int .i64 k2, .int .i64 lo2, .int .i64 hi2, .int .i64 wt2, .string nm2, .slice A2 n2 c2] 56)).drew
  have hbox := Blk.drew (Blk.new w 56 #[.int .i64 cat, .int .i64 cost, .int .i64 k1, .int .i64 lo1, .int .i64 hi1, .int .i64 wt1, .string nm1, .slice A1 n1 c1, .int .i64 k2, .int .i64 lo2, .int .i64 hi2, .int .i64 wt2, .string nm2, .slice A2 n2 c2])
  have h0 : BldW B b l (w.alloc (.cells #[.int .i64 cat, .int .i64 cost, .int .i64 k1, .int .i64 lo1, .int .i64 hi1, .int .i64 wt1, .string nm1, .slice A1 n1 c1, .int .i64 k2, .int .i64 lo2, .int .i64 hi2, .int .i64 wt2, .string nm2, .slice A2 n2 c2] 56)).drew := (h.alloc (.cells #[.int .i64 cat, .int .i64 cost, .int .i64 k1, .int .i64 lo1, .int .i64 hi1, .int .i64 wt1, .string nm1, .slice A1 n1 c1, .int .i64 k2, .int .i64 lo2, .int .i64 hi2, .int .i64 wt2, .string nm2, .slice A2 n2 c2] 56)).drew
  have hc := fun (W : World) (hW : BldW B b l W) => all_new B b l [⟨X.toArray⟩, ⟨#[32]⟩, ⟨Y.toArray⟩, ⟨#[32, 58, 32]⟩] #[.string ⟨X.toArray⟩, .string ⟨#[32]⟩, .string ⟨Y.toArray⟩, .string ⟨#[32, 58, 32]⟩] rfl 4 rfl W hW (by rw [hcat]; simp only [List.length_cons, List.length_append, List.length_nil]; omega) (by omega) _ hcat _ rfl
  have hT1' := hT1.fr hF0.below
  have hT2' := hT2.fr hF0.below
  have v0 := Blk.cell hbox 0; have v1 := Blk.cell hbox 1
  simp only [List.getElem?_toArray, List.getElem?_cons_zero, List.getElem?_cons_succ] at v0 v1
  have HC := Lib.hid hc; have HF := Lib.hid hF0; have HX := Lib.hid hix; have HY := Lib.hid hiy; have H0 := Lib.hid h0; have HT1 := Lib.hid hT1'; have HT2 := Lib.hid hT2'; have HR1 := Lib.hid hr1; have HR2 := Lib.hid hr2; have HBX := Lib.hid hbox
  clear hc hF0 h h0 hix hiy hX hY hcat hT1 hT2 hT1' hT2' hr1 hr2 hbox hP hR ht hv hs hca hco
  go_enter Tryz.func53, Tryz.ntmps53
  go_wp2_with fail
  refine region_x 8 (fun w' : World => w'.cell? ⟨w.heap.size, 0, none⟩ = some (.int .i64 cat) /\ w'.cell? ⟨w.heap.size, 1, none⟩ = some (.int .i64 cost)) (by kernel_rfl) ?_
  obtain ⟨W, hW⟩ : ∃ W, (w.alloc (.cells #[.int .i64 cat, .int .i64 cost, .int .i64 k1, .int .i64 lo1, .int .i64 hi1, .int .i64 wt1, .string nm1, .slice A1 n1 c1, .int .i64 k2, .int .i64 lo2, .int .i64 hi2, .int .i64 wt2, .string nm2, .slice A2 n2 c2] 56)).drew = W := ⟨_, rfl⟩
  rw [hW] at v0 v1 HF H0 HT1 HT2 HBX ⊢
  have hS : W.cell? ⟨w.heap.size, 0, none⟩ = some (.int .i64 cat) /\ W.cell? ⟨w.heap.size, 1, none⟩ = some (.int .i64 cost) := ⟨v0, v1⟩
  clear v0 v1
  refine tkx (i := 0) (v := ?_) hS ?_ ?_
  rotate_left
  ·rintro w' ⟨s1, s2⟩
   go_simp
   try with_reducible rfl
  try simp only [Act.put, zq1, zq2, zq3, zq4, zq5, zq6]
  refine anyX_takeG [2, 3, 6, 7] (i := 1) (v := ?_) rfl (by kernel_rfl) (by kernel_rfl) (by kernel_rfl) (by kernel_rfl) (by kernel_rfl) (fun _ _ _ h => h) (Or.inl ⟨by rfl, ?_⟩) hS ?_
  rotate_left
  ·rintro w' ⟨s1, s2⟩
   go_simp
   try with_reducible rfl
  try simp only [Act.put, zq1, zq2, zq3, zq4, zq5, zq6]
  refine anyX_takeG [3, 6, 7] (i := 2) (v := ?_) rfl (by kernel_rfl) (by kernel_rfl) (by kernel_rfl) (by kernel_rfl) (by kernel_rfl) (fun _ _ _ h => h) (Or.inl ⟨by rfl, ?_⟩) hS ?_
  rotate_left
  ·rintro w' ⟨s1, s2⟩
   go_simp
   try with_reducible rfl
  try simp only [Act.put, zq1, zq2, zq3, zq4, zq5, zq6]
  refine anyX_takeG [5, 6, 7] (i := 4) (v := ?_) rfl (by kernel_rfl) (by kernel_rfl) (by kernel_rfl) (by kernel_rfl) (by kernel_rfl) (fun _ _ _ h => h) (Or.inl ⟨by rfl, ?_⟩) hS ?_
  rotate_left
  ·rintro w' ⟨s1, s2⟩
   go_simp
   try with_reducible rfl
  try simp only [Act.put, zq1, zq2, zq3, zq4, zq5, zq6]
  refine anyX_takeG [6, 7] (i := 5) (v := ?_) rfl (by kernel_rfl) (by kernel_rfl) (by kernel_rfl) (by kernel_rfl) (by kernel_rfl) (fun _ _ _ h => h) (Or.inl ⟨by rfl, ?_⟩) hS ?_
  rotate_left
  ·rintro w' ⟨s1, s2⟩
   go_simp
   try with_reducible rfl
  try simp only [Act.put, zq1, zq2, zq3, zq4, zq5, zq6]
  refine anyX_g (i := 3) (by kernel_rfl) (by decide) rfl (by rfl) ?_
  intro K hK
  try simp only [zq1, zq2, zq3]
  refine wp_enterE #[.int .i64 cat] Tryz.func86 (by kernel_rfl) (by kernel_rfl) ?_ (HX.out W) ?_
  ·go_simp
  rintro e w' ⟨rfl, hw'⟩
  rw [hw']
  clear hw' w'
  refine ⟨_, rfl, ?_⟩
  refine hK _ _ hS ?_
  clear hK
  try simp only [Act.put, zq1, zq2, zq3, zq4, zq5, zq6]
  refine anyX_g (i := 6) (by kernel_rfl) (by decide) rfl (by rfl) ?_
  intro K hK
  try simp only [zq1, zq2, zq3]
  refine wp_enterE #[.int .i64 cost] Tryz.func87 (by kernel_rfl) (by kernel_rfl) ?_ (HY.out W) ?_
  ·go_simp
  rintro e w' ⟨rfl, hw'⟩
  rw [hw']
  clear hw' w'
  refine ⟨_, rfl, ?_⟩
  refine hK _ _ hS ?_
  clear hK
  try simp only [Act.put, zq1, zq2, zq3, zq4, zq5, zq6]
  refine anyX_g (i := 7) (by kernel_rfl) (by decide) rfl (by rfl) ?_
  intro K hK
  try simp only [zq1, zq2, zq3]
  go_simp
  have hSa : (fun w' : World => w'.cell? ⟨w.heap.size, 0, none⟩ = some (.int .i64 cat) /\ w'.cell? ⟨w.heap.size, 1, none⟩ = some (.int .i64 cost)) (W.alloc (.cells #[.string ⟨X.toArray⟩, .string ⟨#[32]⟩, .string ⟨Y.toArray⟩, .string ⟨#[32, 58, 32]⟩] 9)) := by
   obtain ⟨s1, s2⟩ := hS
   exact ⟨by rw [World.cell?_alloc_past _ _ _ (World.block_lt_of_cell? W _ s1)]; exact s1, by rw [World.cell?_alloc_past _ _ _ (World.block_lt_of_cell? W _ s2)]; exact s2⟩
  refine hK _ _ hSa ?_
  clear hK hS hSa
  try simp only [Act.put, zq1, zq2, zq3, zq4, zq5, zq6]
  refine anyX_last (by kernel_rfl) (by kernel_rfl) rfl rfl ?_
  try simp only [zq1, zq2, zq3]
  refine wp_enterE #[.pointer (some ⟨b, 0, none⟩), .slice (some ⟨W.heap.size, 0, none⟩) 4 4] Tryz.func68 (by kernel_rfl) (by kernel_rfl) ?_ (HC.out W H0.out) ?_
  ·go_simp
  rintro e w1 ⟨rfl, h1, hF1⟩
  refine ⟨_, rfl, ?_⟩
  have hbx := hF1.keeps w.heap.size _ _ HBX.out (by omega) (by decide)
  have v0 := Blk.cell hbx 0; have v1 := Blk.cell hbx 1; have v2 := Blk.cell hbx 2; have v3 := Blk.cell hbx 3; have v4 := Blk.cell hbx 4; have v5 := Blk.cell hbx 5; have v6 := Blk.cell hbx 6; have v7 := Blk.cell hbx 7; have v8 := Blk.cell hbx 8; have v9 := Blk.cell hbx 9; have v10 := Blk.cell hbx 10; have v11 := Blk.cell hbx 11; have v12 := Blk.cell hbx 12; have v13 := Blk.cell hbx 13
  simp only [List.getElem?_toArray, List.getElem?_cons_zero, List.getElem?_cons_succ] at v0 v1 v2 v3 v4 v5 v6 v7 v8 v9 v10 v11 v12 v13
  have hF1' := HF.out.trans hF1
  have hr1 := HR1.out B b _ w1 _ (HT1.out.fr hF1.below) h1 (by simp only [List.length_cons, List.length_append, List.length_nil]; omega) (by have := hF1'.grows; omega)
  have HRL := Lib.hid hr1; have HF1 := Lib.hid hF1'; have HT2b := Lib.hid (HT2.out.fr hF1.below); have HBX1 := Lib.hid hbx
  clear hr1 h1 hF1 hF1' hbx HC HF HX HY H0 HT1 HT2 HR1 hW
  try apply_assumption
  go_wp2_with fail
  refine HRL.out.mono ?_
  rintro e w2 ⟨rfl, h2, hF2⟩
  have hbx := hF2.keeps w.heap.size _ _ HBX1.out (by omega) (by decide)
  have hc := one_new (⟨#[32, 47, 32]⟩ : ByteArray) h2 [32, 47, 32] rfl (by simp only [List.length_cons, List.length_append, List.length_nil]; omega) _ rfl
  have HC := Lib.hid hc; have HF2 := Lib.hid (HF1.out.trans hF2); have HT2c := Lib.hid (HT2b.out.fr hF2.below); have HBX2 := Lib.hid hbx
  clear hc h2 hF2 hbx HRL HF1 HT2b HBX1 v0 v1 v2 v3 v4 v5 v6 v7 v8 v9 v10 v11 v12 v13
  go_wp2_with fail
  refine HC.out.mono ?_
  rintro e w3 ⟨rfl, h3, hF3⟩
  have hbx := hF3.keeps w.heap.size _ _ HBX2.out (by omega) (by decide)
  have v0 := Blk.cell hbx 0; have v1 := Blk.cell hbx 1; have v2 := Blk.cell hbx 2; have v3 := Blk.cell hbx 3; have v4 := Blk.cell hbx 4; have v5 := Blk.cell hbx 5; have v6 := Blk.cell hbx 6; have v7 := Blk.cell hbx 7; have v8 := Blk.cell hbx 8; have v9 := Blk.cell hbx 9; have v10 := Blk.cell hbx 10; have v11 := Blk.cell hbx 11; have v12 := Blk.cell hbx 12; have v13 := Blk.cell hbx 13
  simp only [List.getElem?_toArray, List.getElem?_cons_zero, List.getElem?_cons_succ] at v0 v1 v2 v3 v4 v5 v6 v7 v8 v9 v10 v11 v12 v13
  have hF3' := HF2.out.trans hF3
  have hr2 := HR2.out B b _ w3 _ (HT2c.out.fr hF3.below) h3 (by simp only [List.length_cons, List.length_append, List.length_nil]; omega) (by have := hF3'.grows; omega)
  have HRR := Lib.hid hr2; have HF3 := Lib.hid hF3'
  clear hr2 h3 hF3 hF3' hbx HC HF2 HT2c HBX2 HR2
  go_wp2_with fail
  refine HRR.out.mono ?_
  rintro e w4 ⟨rfl, h4, hF4⟩
  have hc := one_new (⟨#[59, 10]⟩ : ByteArray) h4 [59, 10] rfl (by simp only [List.length_cons, List.length_append, List.length_nil]; omega) _ rfl
  have HC := Lib.hid hc; have HF4 := Lib.hid (HF3.out.trans hF4)
  clear hc h4 hF4 HRR HF3 v0 v1 v2 v3 v4 v5 v6 v7 v8 v9 v10 v11 v12 v13
  go_wp2_with fail
  refine HC.out.mono ?_
  rintro e w5 ⟨rfl, h5, hF5⟩
  have H5 := Lib.hid h5; have HF5 := Lib.hid (HF4.out.trans hF5)
  clear h5 hF5
  go_wp2_with fail
  go_end0
  refine ⟨rfl, ?_, HF5.out⟩
  have := H5.out
  simpa using this
theorem writer_new (w : World) (hT : TabD w) : BldW w.heap.size w.heap.size [] (w.alloc (.cells #[.pointer none, .slice none 0 0] 84)) := ⟨Lib.IsBuilderF.of (Lib.fresh_isBuilder 84 5 w), hT.below ((Below.refl _ _).alloc (Nat.le_refl _) _) hT.lt, hT.lt⟩
theorem rexF_ok (p : Pat) (hs : p.Small) (hne : p.text ≠ []) (hlen : p.text.length <= 1000000000) (w : World) (htab : TabD w) (S : Nat -> Prop) (v : Value) (hT : TreeV true w S v p.tree) :
  Calls Tryz.prog 20 #[v] w fun e w' => e = .returned (.string ⟨p.text.toArray⟩) /\ Below w.heap.size w w' := by
  obtain ⟨k, lo, hi, wt, nm, A, n, c, rfl, hk⟩ := hT.kinded
  have hT0 : TreeV true w (fun g => g < w.heap.size) (.agg #[.int .i64 k, .int .i64 lo, .int .i64 hi, .int .i64 wt, .string nm, .slice A n c]) p.tree := hT.bound.keep (fun _ h => h.2) (fun _ _ _ _ h => h)
  have hz : (w.alloc (.cells #[.int .i64 k, .int .i64 lo, .int .i64 hi, .int .i64 wt, .string nm, .slice A n c] 46)).heap.size = w.heap.size + 1 := by simp
  have hbld := writer_new (w.alloc (.cells #[.int .i64 k, .int .i64 lo, .int .i64 hi, .int .i64 wt, .string nm, .slice A n c] 46)) (htab.below ((Below.refl _ _).alloc (Nat.le_refl _) _) htab.lt)
  clear htab
  rw [hz] at hbld
  have hb0 : Below w.heap.size w ((w.alloc (.cells #[.int .i64 k, .int .i64 lo, .int .i64 hi, .int .i64 wt, .string nm, .slice A n c] 46)).alloc (.cells #[.pointer none, .slice none 0 0] 84)) := ((Below.refl _ _).alloc (Nat.le_refl _) _).alloc (by simp) _
  have hT1 : TreeV true _ (fun g => g < w.heap.size + 1) (.agg #[.int .i64 k, .int .i64 lo, .int .i64 hi, .int .i64 wt, .string nm, .slice A n c]) p.tree := (hT0.fr hb0).keep (fun g h => by omega) (fun _ _ _ _ h => h)
  have hc := rex_ok p hs (w.heap.size + 1) (w.heap.size + 1) [] _ _ hT1 hbld (by simpa using hlen) (by simp)
  rw [List.nil_append] at hc
  have HC := Lib.hid hc; have HB := Lib.hid hb0; have HNE := Lib.hid hne
  clear hc hT hT0 hT1 hbld hb0 hk hlen hne
  obtain ⟨P, hP⟩ : ∃ P, p.text = P := ⟨_, rfl⟩
  rw [hP] at HC HNE ⊢
  go_enter Tryz.func20, Tryz.ntmps20
  go_wp2_with fail
  refine HC.out.mono ?_
  rintro e w1 ⟨rfl, h1, hF1⟩
  have hst := string_w _ _ P w1 h1 HNE.out
  have HS := Lib.hid hst; have HB1 := Lib.hid (HB.out.trans (hF1.below.mono (by omega)))
  clear hst h1 hF1 HC HB
  go_wp2_with fail
  refine HS.out.mono ?_
  rintro e w2 ⟨rfl, hb2⟩
  go_wp2_with fail
  go_ret
  exact ⟨rfl, HB1.out.trans (hb2.mono (by omega))⟩
end Go.Proofs.YtalgnnidhnhciaaGreatDoor
