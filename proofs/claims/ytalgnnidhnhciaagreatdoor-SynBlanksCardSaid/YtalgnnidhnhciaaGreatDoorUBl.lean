/- Blanks, line feeds, remarks laid in behind blanks of a text that was written change none of its signs; plain. Contract of the reference's Text. The law SynBlanks, walked. -/
import Derived.Test.YtalgnnidhnhciaaGreatDoorULa
import Derived.Test.YtalgnnidhnhciaaGreatDoorShort
import Derived.Test.YtalgnnidhnhciaaGreatDoorURw
import Derived.Test.YtalgnnidhnhciaaGreatDoorUSynMd
import Derived.Test.YtalgnnidhnhciaaGreatDoorULj
import Derived.Test.YtalgnnidhnhciaaGreatDoorUOw
set_option linter.unusedVariables false
set_option linter.unusedSimpArgs false
set_option linter.unusedVariables false
set_option linter.unusedSimpArgs false
namespace Go.Proofs.YtalgnnidhnhciaaGreatDoor
open Go
def Skips (e : Bs) : Prop := ∀ x, skipB false (e ++ x) = skipB false x
inductive Ins : Bs -> Bs -> Prop
 | nil : Ins [] [35]
 | byte (c : UInt8) (u v : Bs) (h1 : c ≠ 32) (h2 : c ≠ 39) (h3 : c ≠ 35) (h : Ins u v) : Ins (c :: u) (c :: v)
 | gap (e u v : Bs) (he : Skips e) (h : Ins u v) : Ins (32 :: u) (32 :: (e ++ v))
theorem Ins.skip {u v : Bs} (h : Ins u v) : (skipB false u = [] /\ skipB false v = []) \/ ∃ c r s, skipB false u = c :: r /\ skipB false v = c :: s /\ c ≠ 10 /\ c ≠ 32 /\ c ≠ 39 /\ c ≠ 35 /\ Ins r s /\ r.length < u.length := by
 induction h with
 | nil => exact .inl ⟨rfl, rfl⟩
 | byte c u v h1 h2 h3 h ih =>
   by_cases h0 : c = 10
   ·subst h0
    rcases ih with ⟨a, b⟩ | ⟨x, r, s, a, b, q1, q2, q3, q4, q5, q6⟩
    ·exact .inl ⟨by simpa [skipB] using a, by simpa [skipB] using b⟩
    ·exact .inr ⟨x, r, s, by simpa [skipB] using a, by simpa [skipB] using b, q1, q2, q3, q4, q5, by simp; omega⟩
   ·exact .inr ⟨c, u, v, by simp [skipB, h0, h3, h1], by simp [skipB, h0, h3, h1], h0, h1, h2, h3, h, by simp⟩
 | gap e u v he h ih =>
   have ev : skipB false (32 :: (e ++ v)) = skipB false v := by
    have : skipB false (32 :: (e ++ v)) = skipB false (e ++ v) := by simp [skipB]
    rw [this]; exact he v
   have eu : skipB false (32 :: u) = skipB false u := by simp [skipB]
   rw [ev, eu]
   rcases ih with ⟨a, b⟩ | ⟨x, r, s, a, b, q1, q2, q3, q4, q5, q6⟩
   ·exact .inl ⟨a, b⟩
   ·exact .inr ⟨x, r, s, a, b, q1, q2, q3, q4, q5, by simp; omega⟩
theorem Ins.while_ {u v : Bs} (q : UInt8 -> Bool) (q1 : q 32 = false) (q2 : q 35 = false) (h : Ins u v) : ∀ n, (u.take n).takeWhile q = (v.take n).takeWhile q /\ Ins (u.drop ((u.take n).takeWhile q).length) (v.drop ((u.take n).takeWhile q).length) := by
 induction h with
 | nil =>
   intro n
   cases n with
   | zero => exact ⟨rfl, .nil⟩
   | succ n => refine ⟨by simp [q2], by simpa using Ins.nil⟩
 | byte c u v h1 h2 h3 h ih =>
   intro n
   cases n with
   | zero => exact ⟨rfl, .byte c u v h1 h2 h3 h⟩
   | succ n =>
     obtain ⟨a, b⟩ := ih n
     by_cases hq : q c = true
     ·simp only [List.take_succ_cons, List.takeWhile_cons, hq, if_true, List.length_cons, List.drop_succ_cons]
      exact ⟨by rw [a], b⟩
     ·have hq' : q c = false := by simpa using hq
      simp only [List.take_succ_cons, List.takeWhile_cons, hq', Bool.false_eq_true, if_false, List.length_nil, List.drop_zero, true_and]
      exact .byte c u v h1 h2 h3 h
 | gap e u v he h ih =>
   intro n
   cases n with
   | zero => exact ⟨rfl, .gap e u v he h⟩
   | succ n =>
     simp only [List.take_succ_cons, List.takeWhile_cons, q1, Bool.false_eq_true, if_false, List.length_nil, List.drop_zero, true_and]
     exact .gap e u v he h
theorem Ins.whole {u v : Bs} (q : UInt8 -> Bool) (q1 : q 32 = false) (q2 : q 35 = false) (h : Ins u v) : u.takeWhile q = v.takeWhile q /\ Ins (u.drop (u.takeWhile q).length) (v.drop (u.takeWhile q).length) := by
 have := h.while_ q q1 q2 (u.length + v.length)
 rw [List.take_of_length_le (show u.length <= u.length + v.length by omega), List.take_of_length_le (show v.length <= u.length + v.length by omega)] at this
 exact this
theorem Ins.sign {c : UInt8} {r s : Bs} (h1 : c ≠ 32) (h2 : c ≠ 39) (h3 : c ≠ 35) (h : Ins r s) : lexS (c :: r) = lexS (c :: s) /\ ((lexS (c :: r)).kind ≠ 256 -> (lexS (c :: r)).kind ≠ 257 -> Ins ((c :: r).drop (lexS (c :: r)).size) ((c :: s).drop (lexS (c :: r)).size)) := by
 have hcc : Ins (c :: r) (c :: s) := .byte c r s h1 h2 h3 h
 by_cases a : smallB c = true
 ·obtain ⟨w1, w2⟩ := hcc.whole wdB (by decide) (by decide)
  have e1 : lexS (c :: r) = wordS (c :: r) := by simp [lexS, a]
  have e2 : lexS (c :: s) = wordS (c :: s) := by simp [lexS, a]
  rw [e1, e2]
  exact ⟨by unfold wordS; rw [w1], fun _ _ => w2⟩
 have a' : smallB c = false := by simpa using a
 by_cases b : digB c = true
 ·obtain ⟨w1, w2⟩ := hcc.whole digB (by decide) (by decide)
  have e1 : lexS (c :: r) = digS (c :: r) := by simp [lexS, a', b]
  have e2 : lexS (c :: s) = digS (c :: s) := by simp [lexS, a', b]
  rw [e1, e2]
  exact ⟨by unfold digS; rw [w1], fun _ _ => w2⟩
 have b' : digB c = false := by simpa using b
 by_cases d : c = 85
 ·subst d
  have e1 : lexS (85 :: r) = codeS (85 :: r) := by simp [lexS, a', b']
  have e2 : lexS (85 :: s) = codeS (85 :: s) := by simp [lexS, a', b']
  rw [e1, e2]
  cases h with
  | nil => exact ⟨rfl, fun _ k => absurd rfl k⟩
  | gap e u v he h => exact ⟨rfl, fun _ k => absurd rfl k⟩
  | byte x u v x1 x2 x3 h =>
    obtain ⟨w1, w2⟩ := h.while_ hexB (by decide) (by decide) 6
    refine ⟨by simp only [codeS]; rw [w1], fun _ k => ?_⟩
    unfold codeS at k ⊢
    dsimp only at k ⊢
    split
    ·rw [show 2 + ((u.take 6).takeWhile hexB).length = ((u.take 6).takeWhile hexB).length + 1 + 1 by omega, List.drop_succ_cons, List.drop_succ_cons, List.drop_succ_cons, List.drop_succ_cons]
     exact w2
    ·next hn => rw [if_neg hn] at k; exact absurd rfl k
 by_cases m : markB c = true
 ·have e1 : lexS (c :: r) = ⟨c.toNat, [], 0, false, 1⟩ := by simp [lexS, a', b', h2, d, m]
  have e2 : lexS (c :: s) = ⟨c.toNat, [], 0, false, 1⟩ := by simp [lexS, a', b', h2, d, m]
  rw [e1, e2]
  exact ⟨rfl, fun _ _ => h⟩
 ·have m' : markB c = false := by simpa using m
  have e1 : lexS (c :: r) = Sg.none := by simp [lexS, a', b', h2, d, m']
  have e2 : lexS (c :: s) = Sg.none := by simp [lexS, a', b', h2, d, m']
  rw [e1, e2]
  exact ⟨rfl, fun _ k => absurd rfl k⟩
theorem toksT_end (u : Bs) (h : (lexS (skipB false u)).kind = 256) : toksT u = [mkT 256] := by
 unfold toksT lexT
 simp [lexP, h, mkT]
theorem toksT_bad (u : Bs) (h : (lexS (skipB false u)).kind = 257) : toksT u = [mkT 257] := by
 unfold toksT lexT
 simp [lexP, h, mkT]
theorem toksT_big (u : Bs) (h1 : (lexS (skipB false u)).kind ≠ 256) (h2 : (lexS (skipB false u)).kind ≠ 257) (h3 : (lexS (skipB false u)).large = true) : toksT u = [mkT 266] := by
 unfold toksT lexT
 simp [lexP, h1, h2, h3, mkT]
theorem Ins.toks_ : ∀ (n : Nat) (u v : Bs), u.length <= n -> Ins u v -> toksT u = toksT v := by
 intro n
 induction n with
 | zero =>
   intro u v hn h
   obtain rfl := List.eq_nil_of_length_eq_zero (Nat.le_zero.1 hn)
   cases h
   rfl
 | succ n ih =>
   intro u v hn h
   rcases h.skip with ⟨a, b⟩ | ⟨c, r, s, a, b, q1, q2, q3, q4, q5, q6⟩
   ·exact toksT_skip (by rw [a, b])
   ·obtain ⟨e, f⟩ := Ins.sign q2 q3 q4 q5
    have eu : lexS (skipB false u) = lexS (c :: r) := by rw [a]
    have ev : lexS (skipB false v) = lexS (c :: r) := by rw [b, <- e]
    by_cases k1 : (lexS (c :: r)).kind = 256
    ·rw [toksT_end u (by rw [eu, k1]), toksT_end v (by rw [ev, k1])]
    by_cases k2 : (lexS (c :: r)).kind = 257
    ·rw [toksT_bad u (by rw [eu, k2]), toksT_bad v (by rw [ev, k2])]
    by_cases k3 : (lexS (c :: r)).large = true
    ·rw [toksT_big u (by rw [eu]; exact k1) (by rw [eu]; exact k2) (by rw [eu, k3]), toksT_big v (by rw [ev]; exact k1) (by rw [ev]; exact k2) (by rw [ev, k3])]
    have k3' : (lexS (c :: r)).large = false := by simpa using k3
    rw [toksT_step u (by rw [eu]; exact k1) (by rw [eu]; exact k2) (by rw [eu, k3']), toksT_step v (by rw [ev]; exact k1) (by rw [ev]; exact k2) (by rw [ev, k3'])]
    rw [eu, ev, a, b]
    have hp := size_pos _ k1 k2
    rw [ih _ _ (by rw [List.length_drop, List.length_cons]; omega) (f k1 k2)]
theorem Ins.toks {u v : Bs} (h : Ins u v) : toksT u = toksT v := Ins.toks_ _ u v (Nat.le_refl _) h
def Clean (l : Bs) : Prop := ∀ c ∈ l, c ≠ 39 /\ c ≠ 35
theorem Clean.nil : Clean [] := fun c h => by cases h
theorem Clean.cons {c : UInt8} {l : Bs} (h1 : (c != 39 && c != 35) = true) (h : Clean l) : Clean (c :: l) := fun x hx => by
 rcases List.mem_cons.1 hx with rfl | hx
 ·simpa using h1
 ·exact h x hx
theorem Clean.app {l m : Bs} (h1 : Clean l) (h2 : Clean m) : Clean (l ++ m) := fun x hx => by
 rcases List.mem_append.1 hx with hx | hx
 ·exact h1 x hx
 ·exact h2 x hx
theorem clean_wd {l : Bs} (h : ∀ c ∈ l, wdB c = true) : Clean l := fun c hc => by
 have := h c hc
 constructor <;> (rintro rfl; revert this; decide)
theorem clean_hex {l : Bs} (h : ∀ c ∈ l, hexB c = true) : Clean l := fun c hc => by
 have := h c hc
 constructor <;> (rintro rfl; revert this; decide)
theorem clean_dec (n : Nat) : Clean (Lib.decDigits n) := fun c hc => by
 have := (dec_facts n).1 c hc
 constructor <;> (rintro rfl; revert this; decide)
theorem clean_name {s : Bs} (h : nameOk s) : Clean s := clean_wd h.1.2.1
theorem clean_hexN (n : Nat) (h : n <= 1114111) : Clean (hexDigits n) := clean_hex (hex_facts 5 n (by omega)).1
theorem clean_within (a : Bool) {l : Bs} (h : Clean l) : Clean (within_ a l) := by
 unfold within_
 split
 ·exact h
 ·exact Clean.cons (by decide) (h.app (Clean.cons (by decide) Clean.nil))
section
variable {D : List Bs} (hD : ∀ s ∈ D, nameOk s)
include hD
theorem pat_clean {wg : Bool} (p : Pat) (hok : p.Ok D wg) : Clean p.text := by
 induction p with
 | none_ => exact Clean.cons (by decide) (Clean.cons (by decide) Clean.nil)
 | set s => exact clean_name (hD s hok)
 | any_ => exact clean_wd (by decide)
 | cat a b iha ihb => exact (clean_within _ (iha hok.1)).app (Clean.cons (by decide) (clean_within _ (ihb hok.2)))
 | alt a b iha ihb => exact (clean_within _ (iha hok.1)).app (Clean.cons (by decide) (Clean.cons (by decide) (Clean.cons (by decide) (clean_within _ (ihb hok.2)))))
 | star a iha => exact (clean_within _ (iha hok)).app (Clean.cons (by decide) Clean.nil)
 | times a lo hi iha => exact (clean_within _ (iha hok.1)).app (Clean.cons (by decide) ((clean_dec _).app (Clean.cons (by decide) ((clean_dec _).app (Clean.cons (by decide) Clean.nil)))))
 | weight a w iha => exact (clean_within _ (iha hok.1)).app (Clean.cons (by decide) (Clean.cons (by decide) (Clean.cons (by decide) (clean_dec _))))
theorem cls_clean (p : Cls) (hok : p.Ok D) : Clean p.text := by
 induction p with
 | range lo hi =>
   obtain ⟨o1, o2⟩ := hok
   refine Clean.cons (by decide) (Clean.cons (by decide) ((clean_hexN _ (by omega)).app ?_))
   split
   ·exact Clean.nil
   ·exact Clean.cons (by decide) (Clean.cons (by decide) (Clean.cons (by decide) (Clean.cons (by decide) (clean_hexN _ (by omega)))))
 | name s => exact clean_name (hD s hok)
 | any_ => exact clean_wd (by decide)
 | not_ a iha => exact Clean.cons (by decide) (clean_within _ (iha hok))
 | or_ a b iha ihb => exact (clean_within _ (iha hok.1)).app (Clean.cons (by decide) (Clean.cons (by decide) (Clean.cons (by decide) (clean_within _ (ihb hok.2)))))
 | and_ a b iha ihb => exact (clean_within _ (iha hok.1)).app (Clean.cons (by decide) (Clean.cons (by decide) (Clean.cons (by decide) (clean_within _ (ihb hok.2)))))
 | less a b iha ihb => exact (clean_within _ (iha hok.1)).app (Clean.cons (by decide) (Clean.cons (by decide) (Clean.cons (by decide) (clean_within _ (ihb hok.2)))))
end
theorem clean_cat (c : Nat) : Clean (catW c) := by
 unfold catW
 split
 ·exact clean_wd (by decide)
 ·split <;> exact clean_wd (by decide)
theorem def_clean {D : List Bs} (hD : ∀ s ∈ D, nameOk s) (d : DefP) (h : d.Ok D) : Clean d.text :=
 (clean_wd (l := wClass) (by decide)).app (Clean.cons (by decide) ((clean_name h.1).app (Clean.cons (by decide) (Clean.cons (by decide) (Clean.cons (by decide) ((cls_clean hD d.c h.2.2.1).app (Clean.cons (by decide) (Clean.cons (by decide) Clean.nil))))))))
theorem defs_clean (defs : List DefP) : ∀ (D : List Bs), (∀ s ∈ D, nameOk s) -> defsOk D defs -> Clean (defsText defs) := by
 induction defs with
 | nil => intro D _ _; exact Clean.nil
 | cons d r ih =>
   intro D hD h
   refine (def_clean hD d h.1).app (ih (D ++ [d.name]) (fun s hs => ?_) h.2)
   rcases List.mem_append.1 hs with hs | hs
   ·exact hD s hs
   ·simp at hs; rw [hs]; exact h.1.1
theorem rule_clean {D : List Bs} (hD : ∀ s ∈ D, nameOk s) (r : RuleP) (h : r.Ok D) : Clean r.text :=
 (clean_cat _).app (Clean.cons (by decide) ((clean_dec _).app (Clean.cons (by decide) (Clean.cons (by decide) (Clean.cons (by decide) ((pat_clean hD r.left h.2.2.1).app (Clean.cons (by decide) (Clean.cons (by decide) (Clean.cons (by decide)
  ((pat_clean hD r.right h.2.2.2.2.1).app (Clean.cons (by decide) (Clean.cons (by decide) Clean.nil))))))))))))
theorem rules_clean {D : List Bs} (hD : ∀ s ∈ D, nameOk s) (rules : List RuleP) (h : ∀ r ∈ rules, r.Ok D) : Clean (rulesText rules) := by
 induction rules with
 | nil => exact Clean.nil
 | cons r rs ih => exact (rule_clean hD r (h r (by simp))).app (ih fun x hx => h x (by simp [hx]))
def remark : Bs := [35, 32, 115, 111, 59, 32, 99, 108, 97, 115, 115, 10]
def begins_ : Bs := [32, 35, 32, 98, 101, 103, 105, 110, 115, 10]
def gapOf (k : Nat) : Bs := if k = 0 then [] else if k = 1 then [32] else if k = 2 then [10] else remark
def gapAt (gs : List Int) (i : Nat) : Bs := match gs[i]? with | some z => gapOf (wthN z 4) | none => []
theorem gapOf_skips (k : Nat) : Skips (gapOf k) := by
 intro x
 unfold gapOf
 split; · rfl
 split; · simp [skipB]
 split; · simp [skipB]
 ·simp [remark, skipB]
theorem gapAt_skips (gs : List Int) (i : Nat) : Skips (gapAt gs i) := by
 unfold gapAt
 split
 ·exact gapOf_skips _
 ·intro x; rfl
theorem begins_skips : Skips begins_ := fun x => by simp [begins_, skipB]
def laidIn (gs : List Int) : Nat -> Bs -> Bs
 | _, [] => []
 | i, c :: r => c :: ((if c == 32 then gapAt gs i else []) ++ laidIn gs (i + 1) r)
theorem laidIn_snoc (gs : List Int) (c : UInt8) (u : Bs) : ∀ i, laidIn gs i (u ++ [c]) = laidIn gs i u ++ c :: (if c == 32 then gapAt gs (i + u.length) else []) := by
 induction u with
 | nil => intro i; simp [laidIn]
 | cons x r ih =>
   intro i
   simp only [List.cons_append, laidIn, ih, List.length_cons, List.append_assoc]
   rw [show i + 1 + r.length = i + (r.length + 1) by omega]
theorem laidIn_ins (gs : List Int) (u : Bs) (h : Clean u) : ∀ i, Ins u (laidIn gs i u ++ [35]) := by
 induction u with
 | nil => intro i; exact .nil
 | cons c r ih =>
   intro i
   have hr := ih (fun x hx => h x (by simp [hx])) (i + 1)
   obtain ⟨h1, h2⟩ := h c (by simp)
   by_cases e : c = 32
   ·subst e
    simp only [laidIn, List.cons_append, List.append_assoc, beq_self_eq_true, if_true]
    exact .gap _ _ _ (gapAt_skips gs i) hr
   ·have e' : (c == 32) = false := by simpa using e
    simp only [laidIn, List.cons_append, e', Bool.false_eq_true, if_false, List.nil_append]
    exact .byte c _ _ e h1 h2 hr
theorem blanks_parse {l : List RawP} (h : sizeR 6 l <= 30) (ns ds gs : List Int) (hl : (begins_ ++ laidIn gs 0 (defsText (defsOf ds) ++ rulesText (rulesOf l ns))).length <= 3990) :
  parseT (begins_ ++ laidIn gs 0 (defsText (defsOf ds) ++ rulesText (rulesOf l ns)) ++ [35]) = (((defsOf ds).map DefP.tree, (rulesOf l ns).map RuleP.tree), 0, 0) := by
  have hn := names_ok (defsOf ds) [] (by simp) (defsOf_ok ds)
  have hn' : ∀ s ∈ (defsOf ds).map DefP.name, nameOk s := by simpa using hn
  have hc : Clean (defsText (defsOf ds) ++ rulesText (rulesOf l ns)) := (defs_clean _ [] (by simp) (defsOf_ok ds)).app (rules_clean hn' _ (rulesOf_ok h ns ds))
  have hi := (laidIn_ins gs _ hc 0).toks
  have ht : toksT (begins_ ++ laidIn gs 0 (defsText (defsOf ds) ++ rulesText (rulesOf l ns)) ++ [35]) = toksT (defsText (defsOf ds) ++ rulesText (rulesOf l ns)) := by
   rw [hi, List.append_assoc]
   exact toksT_skip (begins_skips _)
  refine parse_of_toks _ _ _ (defsOf_ok ds) (rulesOf_ok h ns ds) (Nat.le_trans (defsOf_len ds).2 (by decide)) (Nat.le_trans (rulesOf_len l ns) (by decide)) ?_ (by rw [List.length_append]; exact Nat.le_trans (Nat.add_le_add_right hl 1) (by decide))
  have := rules_toks hn' (rulesOf l ns) (rulesOf_ok h ns ds) []
  rw [List.append_nil] at this
  rw [ht, defs_toks (defsOf ds) [] (by simp) (defsOf_ok ds), this, toksT_nil]
end Go.Proofs.YtalgnnidhnhciaaGreatDoor

set_option linter.unusedVariables false
set_option linter.unusedSimpArgs false
set_option maxRecDepth 100000
set_option maxHeartbeats 16000000
namespace Go.Proofs.YtalgnnidhnhciaaGreatDoor
open Go Go.RowKit Go.Proofs
structure BoxR (w : World) (T : TypeId) (c0 : Array Value) (H : Nat) (T' : TypeId) (c1 : Array Value) (W : World) : Prop where
 box : BoxS w T c0 W
 b : Blk W H T' c1
theorem BoxR.bel {w W W' : World} {T T' : TypeId} {c0 c1 : Array Value} {H : Nat} (h : BoxR w T c0 H T' c1 W) (hb : Below W.heap.size W W') : BoxR w T c0 H T' c1 W' := ⟨h.box.bel hb, Blk.below h.b hb (Blk.lt h.b)⟩
theorem BoxR.below {w W : World} {T T' : TypeId} {c0 c1 : Array Value} {H : Nat} (h : BoxR w T c0 H T' c1 W) : Below w.heap.size w W := h.box.below
theorem BoxR.drew {w W : World} {T T' : TypeId} {c0 c1 : Array Value} {H : Nat} (h : BoxR w T c0 H T' c1 W) : BoxR w T c0 H T' c1 W.drew := ⟨h.box.drew, Blk.drew h.b⟩
theorem cat_cell {W : World} {H c : Nat} (h : Blk W H 9 #[.string ⟨#[108, 105, 110, 101, 32]⟩, .string ⟨#[104, 121, 112, 104, 101, 110, 32]⟩, .string ⟨#[101, 109, 101, 114, 103, 101, 110, 99, 121, 32]⟩]) (hc : c <= 2) : ∃ t : ByteArray, t.data.toList = catW c ++ [32] /\ t.size <= 10 /\ W.cell? ⟨H, c, none⟩ = some (.string t) := by
 have : c = 0 \/ c = 1 \/ c = 2 := by omega
 rcases this with rfl | rfl | rfl
 ·exact ⟨_, by rfl, by decide, Blk.cell h 0⟩
 ·exact ⟨_, by rfl, by decide, Blk.cell h 1⟩
 ·exact ⟨_, by rfl, by decide, Blk.cell h 2⟩
theorem DefsAt.getL {w : World} {S : Nat -> Prop} {A : Option Addr} {n c : Nat} {l : List DefP} (h : DefsAt w S (.slice A n c) (l.map DefP.tree)) : n = l.length /\ n <= c /\ c <= maxLen /\ ∀ i (hi : i < l.length), ∃ g o x, A = some ⟨g, o, none⟩ /\ CellsAt w g (o + i * 6) (DCell.enc x) /\ DefR w S x (l[i]).tree := by
 obtain ⟨A', c', cs, e, h2, h3, h4, h5, h6⟩ := h
 injection e with e1 e2 e3
 subst e1; subst e2; subst e3
 rw [List.length_map] at h2 h4 ⊢
 refine ⟨rfl, h2, h3, fun i hi => ?_⟩
 obtain ⟨g, o, rfl⟩ := h4.some (by omega)
 have hc : i < cs.length := by rw [h5.len, List.length_map]; exact hi
 refine ⟨g, o, cs[i], rfl, (h6 g o rfl i hc).2, ?_⟩
 have := h5.at_ i hc (by rw [List.length_map]; exact hi)
 simpa using this
theorem RulesAt.getL {w : World} {S : Nat -> Prop} {A : Option Addr} {n c : Nat} {l : List RuleP} (h : RulesAt w S (.slice A n c) (l.map RuleP.tree)) : n = l.length /\ n <= c /\ c <= maxLen /\ ∀ i (hi : i < l.length), ∃ g o x, A = some ⟨g, o, none⟩ /\ CellsAt w g (o + i * 14) (RCell.enc x) /\ RuleR w S x (l[i]).tree := by
 obtain ⟨A', c', cs, e, h2, h3, h4, h5, h6⟩ := h
 injection e with e1 e2 e3
 subst e1; subst e2; subst e3
 rw [List.length_map] at h2 h4 ⊢
 refine ⟨rfl, h2, h3, fun i hi => ?_⟩
 obtain ⟨g, o, rfl⟩ := h4.some (by omega)
 have hc : i < cs.length := by rw [h5.len, List.length_map]; exact hi
 refine ⟨g, o, cs[i], rfl, (h6 g o rfl i hc).2, ?_⟩
 have := h5.at_ i hc (by rw [List.length_map]; exact hi)
 simpa using this
theorem rtext_ok (DF : List DefP) (RL : List RuleP) (hcls : ∀ d ∈ DF, ∃ D, d.c.Ok D) (hsm : ∀ r ∈ RL, r.Small) (hct : ∀ r ∈ RL, r.cat <= 2) (hlen : (defsText DF ++ rulesText RL).length <= 100000) (w : World) (S S' : Nat -> Prop) (dv rv : Value) (hD : DefsAt w S dv (DF.map DefP.tree)) (hR : RulesAt w S' rv (RL.map RuleP.tree)) :
  Calls Tryz.prog 18 #[.agg #[dv, rv]] w (WrR w (defsText DF ++ rulesText RL)) := by
  have hD0 := hD; have hR0 := hR
  obtain ⟨DA, dc, -, rfl, -⟩ := hD
  obtain ⟨RA, rc, -, rfl, -⟩ := hR
  obtain ⟨hnd, hd1, hd2, hdget⟩ := hD0.getL
  obtain ⟨hnr, hr1, hr2, hrget⟩ := hR0.getL
  generalize (DF.map DefP.tree).length = nd at *
  generalize (RL.map RuleP.tree).length = nr at *
  have hld : (defsText DF).length <= 100000 := by rw [List.length_append] at hlen; omega
  unfold maxLen at hd2 hr2
  have hB0 := BoxS.mk' w 28 #[.slice DA nd dc, .slice RA nr rc]
  have HND := Lib.hid hnd; have HNR := Lib.hid hnr; have HDG := Lib.hid hdget; have HRG := Lib.hid hrget; have HB0 := Lib.hid hB0; have HCLS := Lib.hid hcls; have HSM := Lib.hid hsm; have HCT := Lib.hid hct; have HLEN := Lib.hid hlen; have HLD := Lib.hid hld
  clear hnd hnr hdget hrget hB0 hcls hsm hct hlen hld hD0 hR0
  go_enter Tryz.func18, Tryz.ntmps18
  go_wp2_with fail
  go_loopg [3, 4] nd (fun gk vs vi wr => ∃ (i : Nat) (t : ByteArray), vs = .string t /\ vi = .int .i64 i /\ gk = nd - i /\ i <= nd /\ t.size <= 100000 /\ Hid (t.data.toList = defsText (DF.take i)) /\ Hid (BoxS w 28 #[.slice DA nd dc, .slice RA nr rc] wr))
  case atStart => exact ⟨0, ⟨#[]⟩, rfl, rfl, rfl, Nat.zero_le _, by decide, Lib.hid rfl, HB0⟩
  case round =>
   clear HB0
   obtain ⟨i, t, rfl, rfl, hgk, hin, hts, HTL, HB⟩ := hrel
   have HGK := Lib.hid hgk; clear hgk
   have i0 : (0 : Int) <= (i : Int) := Int.natCast_nonneg _
   have b0 := Blk.cell HB.out.a 0
   simp only [List.getElem?_toArray, List.getElem?_cons_zero, List.getElem?_cons_succ] at b0
   by_cases hlt : i < nd
   ·have i1 : (i : Int) < (nd : Int) := by omega
    have hil : i < DF.length := by rw [<- HND.out]; exact hlt
    obtain ⟨g, o, x, rfl, hcells, hdr⟩ := HDG.out i hil
    obtain ⟨D, hok⟩ := HCLS.out _ (List.getElem_mem hil)
    obtain ⟨nm0, k, lo, hi, nm, A, n, c⟩ := x
    obtain ⟨hnm, htv⟩ := hdr
    have hnm' : nm0.data.toList = (DF[i]).name := hnm
    have htv' : TreeV false w S (.agg #[.int .i64 k, .int .i64 lo, .int .i64 hi, .string nm, .slice A n c]) (DF[i]).c.tree := htv
    have hll := defsText_len DF i hil
    have htk := defsText_take DF i hil
    have hdt : (DF[i]).text = [99, 108, 97, 115, 115, 32] ++ nm0.data.toList ++ [32, 61, 32] ++ (DF[i]).c.text ++ [59, 10] := by rw [hnm']; simp [DefP.text, wClass]
    have hLt : t.size = (defsText (DF.take i)).length := by rw [size_list, HTL.out]
    have hL6 := congrArg List.length hdt
    simp only [List.length_append, List.length_cons, List.length_nil, <- size_list] at hL6
    have hLD := HLD.out
    have hb1 : t.size + nm0.size + (DF[i]).c.text.length + 11 <= 100000 := by omega
    have hcl := fun W (hb : Below w.heap.size w W) => rclass_ok (DF[i]).c hok (by omega) W S _ (htv'.bel (fun _ h => h) hb)
    have hRf : ∀ W : World, BoxS w 28 #[.slice (some ⟨g, o, none⟩) nd dc, .slice RA nr rc] W -> (fun w' : World => w'.cell? ⟨w.heap.size, 0, none⟩ = some (.slice (some ⟨g, o, none⟩) nd dc) /\ w'.cell? ⟨g, o + i * 6, none⟩ = some (.string nm0) /\ w'.cell? ⟨g, o + i * 6 + 1, none⟩ = some (.int .i64 k) /\ w'.cell? ⟨g, o + i * 6 + 2, none⟩ = some (.int .i64 lo) /\ w'.cell? ⟨g, o + i * 6 + 3, none⟩ = some (.int .i64 hi) /\ w'.cell? ⟨g, o + i * 6 + 4, none⟩ = some (.string nm) /\ w'.cell? ⟨g, o + i * 6 + 5, none⟩ = some (.slice A n c)) W := fun W hW => by
     have hc := hcells.bel hW.below
     exact ⟨Blk.cell hW.a 0, hc 0 _ rfl, hc 1 _ rfl, hc 2 _ rfl, hc 3 _ rfl, hc 4 _ rfl, hc 5 _ rfl⟩
    rw [hdt] at htk
    obtain ⟨P, hP⟩ : ∃ P, (DF[i]).c.text = P := ⟨_, rfl⟩
    rw [hP] at htk hcl hb1
    have hPl : P.length <= 100000 := by omega
    have hbox : BoxS w 28 #[.slice (some ⟨g, o, none⟩) nd dc, .slice RA nr rc] wr := HB.out
    have HCL := Lib.hid hcl; have HTK := Lib.hid htk; have HRF := Lib.hid hRf; have HPL := Lib.hid hPl; have HB1 := Lib.hid hb1; have HBX := Lib.hid hbox
    have hnz : nm0.size <= 100000 := by omega
    clear hcl htk hRf hPl hb1 hbox hcells htv htv' hnm hnm' hdt hP hll hL6 hok HDG HRG HB HLEN hLt hLD
    go_wp2_with fail
    have hB0d := HBX.out.drew
    refine region_x 19 (fun w' : World => w'.cell? ⟨w.heap.size, 0, none⟩ = some (.slice (some ⟨g, o, none⟩) nd dc) /\ w'.cell? ⟨g, o + i * 6, none⟩ = some (.string nm0) /\ w'.cell? ⟨g, o + i * 6 + 1, none⟩ = some (.int .i64 k) /\ w'.cell? ⟨g, o + i * 6 + 2, none⟩ = some (.int .i64 lo) /\ w'.cell? ⟨g, o + i * 6 + 3, none⟩ = some (.int .i64 hi) /\ w'.cell? ⟨g, o + i * 6 + 4, none⟩ = some (.string nm) /\ w'.cell? ⟨g, o + i * 6 + 5, none⟩ = some (.slice A n c)) (by kernel_rfl) ?_
    have hS := HRF.out _ hB0d
    have g0 : ¬ 9223372036854775807 < t.size + 6 := by omega
    have g1 : ¬ 9223372036854775807 < t.size + 6 + nm0.size := by omega
    have g2 : ¬ 9223372036854775807 < t.size + 6 + nm0.size + 3 := by omega
    refine tkx (i := 0) (v := ?_) hS ?_ ?_
    rotate_left
    ·rintro w' ⟨b0, e0, e1, e2, e3, e4, e5⟩
     go_simp
     try with_reducible rfl
    try simp only [Act.put, zq1, zq2, zq3, zq4, zq5, zq6]
    refine tkx (i := 1) (v := ?_) hS ?_ ?_
    rotate_left
    ·rintro w' ⟨b0, e0, e1, e2, e3, e4, e5⟩
     go_simp
     try with_reducible rfl
    try simp only [Act.put, zq1, zq2, zq3, zq4, zq5, zq6]
    refine tkx (i := 2) (v := ?_) hS ?_ ?_
    rotate_left
    ·rintro w' ⟨b0, e0, e1, e2, e3, e4, e5⟩
     go_simp
     try with_reducible rfl
    try simp only [Act.put, zq1, zq2, zq3, zq4, zq5, zq6]
    refine tkx (i := 3) (v := ?_) hS ?_ ?_
    rotate_left
    ·rintro w' ⟨b0, e0, e1, e2, e3, e4, e5⟩
     go_simp
     try with_reducible rfl
    try simp only [Act.put, zq1, zq2, zq3, zq4, zq5, zq6]
    refine tkx (i := 4) (v := ?_) hS ?_ ?_
    rotate_left
    ·rintro w' ⟨b0, e0, e1, e2, e3, e4, e5⟩
     go_simp
     try with_reducible rfl
    try simp only [Act.put, zq1, zq2, zq3, zq4, zq5, zq6]
    refine tkx (i := 5) (v := ?_) hS ?_ ?_
    rotate_left
    ·rintro w' ⟨b0, e0, e1, e2, e3, e4, e5⟩
     go_simp
     try with_reducible rfl
    try simp only [Act.put, zq1, zq2, zq3, zq4, zq5, zq6]
    refine tkx (i := 6) (v := ?_) hS ?_ ?_
    rotate_left
    ·rintro w' ⟨b0, e0, e1, e2, e3, e4, e5⟩
     go_simp
     try with_reducible rfl
    try simp only [Act.put, zq1, zq2, zq3, zq4, zq5, zq6]
    refine tkx (i := 7) (v := ?_) hS ?_ ?_
    rotate_left
    ·rintro w' ⟨b0, e0, e1, e2, e3, e4, e5⟩
     go_simp
     try with_reducible rfl
    try simp only [Act.put, zq1, zq2, zq3, zq4, zq5, zq6]
    refine tkx (i := 8) (v := ?_) hS ?_ ?_
    rotate_left
    ·rintro w' ⟨b0, e0, e1, e2, e3, e4, e5⟩
     go_simp
     try with_reducible rfl
    try simp only [Act.put, zq1, zq2, zq3, zq4, zq5, zq6]
    refine tkx (i := 9) (v := ?_) hS ?_ ?_
    rotate_left
    ·rintro w' ⟨b0, e0, e1, e2, e3, e4, e5⟩
     go_simp
     try with_reducible rfl
    try simp only [Act.put, zq1, zq2, zq3, zq4, zq5, zq6]
    refine tkx (i := 10) (v := ?_) hS ?_ ?_
    rotate_left
    ·rintro w' ⟨b0, e0, e1, e2, e3, e4, e5⟩
     go_simp
     try with_reducible rfl
    try simp only [Act.put, zq1, zq2, zq3, zq4, zq5, zq6]
    refine tkx (i := 11) (v := ?_) hS ?_ ?_
    rotate_left
    ·rintro w' ⟨b0, e0, e1, e2, e3, e4, e5⟩
     go_simp
     try with_reducible rfl
    try simp only [Act.put, zq1, zq2, zq3, zq4, zq5, zq6]
    refine tkx (i := 12) (v := ?_) hS ?_ ?_
    rotate_left
    ·rintro w' ⟨b0, e0, e1, e2, e3, e4, e5⟩
     go_simp
     try with_reducible rfl
    try simp only [Act.put, zq1, zq2, zq3, zq4, zq5, zq6]
    refine tkx (i := 13) (v := ?_) hS ?_ ?_
    rotate_left
    ·rintro w' ⟨b0, e0, e1, e2, e3, e4, e5⟩
     go_simp
     try with_reducible rfl
    try simp only [Act.put, zq1, zq2, zq3, zq4, zq5, zq6]
    refine tkx (i := 14) (v := ?_) hS ?_ ?_
    rotate_left
    ·rintro w' ⟨b0, e0, e1, e2, e3, e4, e5⟩
     go_simp
     try with_reducible rfl
    try simp only [Act.put, zq1, zq2, zq3, zq4, zq5, zq6]
    refine tkx (i := 15) (v := ?_) hS ?_ ?_
    rotate_left
    ·rintro w' ⟨b0, e0, e1, e2, e3, e4, e5⟩
     go_simp
     try with_reducible rfl
    try simp only [Act.put, zq1, zq2, zq3, zq4, zq5, zq6]
    refine anyX_g (i := 16) (by kernel_rfl) (by decide) rfl (by rfl) ?_
    intro K hK
    try simp only [zq1, zq2, zq3]
    refine wp_enterE #[.agg #[.int .i64 k, .int .i64 lo, .int .i64 hi, .string nm, .slice A n c]] Tryz.func35 (by kernel_rfl) (by kernel_rfl) ?_ (HCL.out _ hB0d.below) ?_
    ·go_simp
    rintro e w1 ⟨t1, rfl, ht1, hz1, hb1⟩
    refine ⟨_, rfl, ?_⟩
    have hR1 := hB0d.bel hb1
    have hS1 := HRF.out _ hR1
    have hs1 : t1.size <= 100000 := by rw [hz1]; exact HPL.out
    have HT1 := Lib.hid ht1; clear ht1 hz1 hb1
    refine hK _ _ hS1 ?_
    clear hK
    try simp only [Act.put, zq1, zq2, zq3, zq4, zq5, zq6]
    have g3 : ¬ 9223372036854775807 < t.size + 6 + nm0.size + 3 + t1.size := by omega
    have g4 : ¬ 9223372036854775807 < t.size + 6 + nm0.size + 3 + t1.size + 2 := by omega
    refine tkx (i := 17) (v := ?_) hS1 ?_ ?_
    rotate_left
    ·rintro w' ⟨b0, e0, e1, e2, e3, e4, e5⟩
     go_simp
     try with_reducible rfl
    try simp only [Act.put, zq1, zq2, zq3, zq4, zq5, zq6]
    refine tkx (i := 18) (v := ?_) hS1 ?_ ?_
    rotate_left
    ·rintro w' ⟨b0, e0, e1, e2, e3, e4, e5⟩
     go_simp
     try with_reducible rfl
    try simp only [Act.put, zq1, zq2, zq3, zq4, zq5, zq6]
    have HE := Lib.hid hR1
    clear hS hS1 hR1 hB0d b0
    refine anyX_last (by kernel_rfl) (by kernel_rfl) rfl rfl ?_
    try simp only [zq1, zq2, zq3]
    go_simp
    try apply_assumption
    clear g0 g1 g2 g3 g4
    go_wp2_with fail
    go_roundg (nd - (i + 1))
    case measure => have := HGK.out; omega
    case rel =>
     refine ⟨i + 1, _, rfl, by go_num, rfl, hlt, ?_, Lib.hid (by rw [HTK.out]; simp [HTL.out, HT1.out]), HE⟩
     have := HB1.out
     have h1 : t1.size = P.length := by rw [size_list, HT1.out]
     simp only [ByteArray.size_append]
     have e1 : (ByteArray.mk #[99, 108, 97, 115, 115, 32]).size = 6 := rfl
     have e2 : (ByteArray.mk #[32, 61, 32]).size = 3 := rfl
     have e3 : (ByteArray.mk #[59, 10]).size = 2 := rfl
     omega
   ·have hin' : i = nd := by omega
    have htl := HTL.out
    have HIN := Lib.hid hin'
    rw [List.take_of_length_le (by rw [<- HND.out]; omega)] at htl
    have HTD := Lib.hid htl; have HBX := HB
    clear hin' htl HB HTL HDG HGK
    go_wp2_with fail
    clear b0 i0
    go_loopg [3, 5] nr (fun gk2 vs vj wr2 => ∃ (j : Nat) (t2 : ByteArray), vs = .string t2 /\ vj = .int .i64 j /\ gk2 = nr - j /\ j <= nr /\ t2.size <= 100000 /\ Hid (t2.data.toList = defsText DF ++ rulesText (RL.take j)) /\ Hid (BoxS w 28 #[.slice DA nd dc, .slice RA nr rc] wr2))
    case atStart => exact ⟨0, t, rfl, rfl, rfl, Nat.zero_le _, hts, Lib.hid (by rw [HTD.out]; simp [rulesText]), HBX⟩
    case round =>
     clear HBX HTD hts
     obtain ⟨j, tb, rfl, rfl, hgk, hjn, htb, HTL, HB⟩ := hrel
     have HGK := Lib.hid hgk; clear hgk
     have j0 : (0 : Int) <= (j : Int) := Int.natCast_nonneg _
     have b1 := Blk.cell HB.out.a 1
     simp only [List.getElem?_toArray, List.getElem?_cons_zero, List.getElem?_cons_succ] at b1
     by_cases hjt : j < nr
     ·have j1 : (j : Int) < (nr : Int) := by omega
      have hil : j < RL.length := by rw [<- HNR.out]; exact hjt
      obtain ⟨g, o, x, rfl, hcells, hdr⟩ := HRG.out j hil
      have hsmj := HSM.out _ (List.getElem_mem hil)
      have hctj := HCT.out _ (List.getElem_mem hil)
      obtain ⟨catI, costI, k1, lo1, hi1, wt1, nm1, A1, n1, c1, k2, lo2, hi2, wt2, nm2, A2, n2, c2⟩ := x
      obtain ⟨hca, hco, htv1, htv2⟩ := hdr
      have htv1' : TreeV true w S' (.agg #[.int .i64 k1, .int .i64 lo1, .int .i64 hi1, .int .i64 wt1, .string nm1, .slice A1 n1 c1]) (RL[j]).left.tree := htv1
      have htv2' : TreeV true w S' (.agg #[.int .i64 k2, .int .i64 lo2, .int .i64 hi2, .int .i64 wt2, .string nm2, .slice A2 n2 c2]) (RL[j]).right.tree := htv2
      have hca' : catI = ((RL[j]).cat : Int) := hca
      have hco' : costI = ((RL[j]).cost : Int) := hco
      have hll := rulesText_len RL j hil
      have htk := rulesText_take RL j hil
      have hdt : (RL[j]).text = catW (RL[j]).cat ++ [32] ++ Lib.decDigits (RL[j]).cost ++ [32, 58, 32] ++ (RL[j]).left.text ++ [32, 47, 32] ++ (RL[j]).right.text ++ [59, 10] := by simp [RuleP.text]
      have hLt : tb.size = (defsText DF).length + (rulesText (RL.take j)).length := by rw [size_list, HTL.out, List.length_append]
      have hL6 := congrArg List.length hdt
      simp only [List.length_append, List.length_cons, List.length_nil] at hL6
      have hLD := HLEN.out
      rw [List.length_append] at hLD
      have hb1 : tb.size + (catW (RL[j]).cat).length + 1 + (Lib.decDigits (RL[j]).cost).length + 3 + (RL[j]).left.text.length + 3 + (RL[j]).right.text.length + 2 <= 100000 := by omega
      have hdg := fun W => rdigits_any (RL[j]).cost W hsmj.1
      have hc1 := fun W (hb : Below w.heap.size w W) => rrex_ok (RL[j]).left hsmj.2.1 (by omega) W S' _ (htv1'.bel (fun _ h => h) hb)
      have hc2 := fun W (hb : Below w.heap.size w W) => rrex_ok (RL[j]).right hsmj.2.2 (by omega) W S' _ (htv2'.bel (fun _ h => h) hb)
      have hcw := hcells.bel HB.out.below
      rw [hdt] at htk
      rw [<- hco'] at hdg
      obtain ⟨c, hcc⟩ : ∃ c, (RL[j]).cat = c := ⟨_, rfl⟩
      obtain ⟨L0, hL0⟩ : ∃ P, Lib.decDigits (RL[j]).cost = P := ⟨_, rfl⟩
      obtain ⟨L1, hL1⟩ : ∃ P, (RL[j]).left.text = P := ⟨_, rfl⟩
      obtain ⟨L2, hL2⟩ : ∃ P, (RL[j]).right.text = P := ⟨_, rfl⟩
      rw [hcc] at htk hb1 hctj hca'
      rw [hL0] at htk hb1 hdg
      rw [hL1] at htk hb1 hc1
      rw [hL2] at htk hb1 hc2
      clear hcc hL0 hL1 hL2 hL6 hLt hLD hll hdt htv1 htv2 htv1' htv2' hca hco hco' hsmj
      subst hca'
      have hl0 : L0.length <= 100000 := by omega
      have hl1 : L1.length <= 100000 := by omega
      have hl2 : L2.length <= 100000 := by omega
      obtain ⟨cost, hcost⟩ : ∃ x, costI = x := ⟨_, rfl⟩
      rw [hcost] at hcw hdg
      have J2 : c < 3 := by omega
      have J0 : (0 : Int) <= (c : Int) := Int.natCast_nonneg _
      have J1 : (c : Int) < 3 := by omega
      have q0 := hcw 0 _ rfl; have q1 := hcw 1 _ rfl; have q2 := hcw 2 _ rfl; have q3 := hcw 3 _ rfl; have q4 := hcw 4 _ rfl; have q5 := hcw 5 _ rfl; have q6 := hcw 6 _ rfl; have q7 := hcw 7 _ rfl
      have q8 := hcw 8 _ rfl; have q9 := hcw 9 _ rfl; have q10 := hcw 10 _ rfl; have q11 := hcw 11 _ rfl; have q12 := hcw 12 _ rfl; have q13 := hcw 13 _ rfl
      rw [Nat.add_zero] at q0
      have HDIG := Lib.hid hdg; have HC1 := Lib.hid hc1; have HC2 := Lib.hid hc2; have HTK := Lib.hid htk; have HB1 := Lib.hid hb1; have HL0 := Lib.hid hl0; have HL1 := Lib.hid hl1; have HL2 := Lib.hid hl2
      clear hdg hc1 hc2 htk hb1 hl0 hl1 hl2 hcells hcw hcost HRG
      go_wp2_with fail
      clear q0 q1 q2 q3 q4 q5 q6 q7 q8 q9 q10 q11 q12 q13 b1
      obtain ⟨V, hV⟩ : ∃ V, wr.alloc (.cells #[.int .i64 c, .int .i64 cost, .int .i64 k1, .int .i64 lo1, .int .i64 hi1, .int .i64 wt1, .string nm1, .slice A1 n1 c1, .int .i64 k2, .int .i64 lo2, .int .i64 hi2, .int .i64 wt2, .string nm2, .slice A2 n2 c2] 56) = V := ⟨_, rfl⟩
      have hbr : BoxR w 28 #[.slice DA nd dc, .slice (some ⟨g, o, none⟩) nr rc] wr.heap.size 56 #[.int .i64 c, .int .i64 cost, .int .i64 k1, .int .i64 lo1, .int .i64 hi1, .int .i64 wt1, .string nm1, .slice A1 n1 c1, .int .i64 k2, .int .i64 lo2, .int .i64 hi2, .int .i64 wt2, .string nm2, .slice A2 n2 c2] V := by
       rw [<- hV]
       exact ⟨BoxS.alloc HB.out _, Blk.new _ _ _⟩
      rw [hV]
      obtain ⟨H, hH⟩ : ∃ H, wr.heap.size = H := ⟨_, rfl⟩
      rw [hH] at hbr ⊢
      have hRf : ∀ W : World, BoxR w 28 #[.slice DA nd dc, .slice (some ⟨g, o, none⟩) nr rc] H 56 #[.int .i64 c, .int .i64 cost, .int .i64 k1, .int .i64 lo1, .int .i64 hi1, .int .i64 wt1, .string nm1, .slice A1 n1 c1, .int .i64 k2, .int .i64 lo2, .int .i64 hi2, .int .i64 wt2, .string nm2, .slice A2 n2 c2] W -> (fun w' : World => w'.cell? ⟨H, 0, none⟩ = some (.int .i64 c) /\ w'.cell? ⟨H, 1, none⟩ = some (.int .i64 cost) /\ w'.cell? ⟨H, 2, none⟩ = some (.int .i64 k1) /\ w'.cell? ⟨H, 3, none⟩ = some (.int .i64 lo1) /\ w'.cell? ⟨H, 4, none⟩ = some (.int .i64 hi1) /\ w'.cell? ⟨H, 5, none⟩ = some (.int .i64 wt1) /\ w'.cell? ⟨H, 6, none⟩ = some (.string nm1) /\ w'.cell? ⟨H, 7, none⟩ = some (.slice A1 n1 c1) /\ w'.cell? ⟨H, 8, none⟩ = some (.int .i64 k2) /\ w'.cell? ⟨H, 9, none⟩ = some (.int .i64 lo2) /\ w'.cell? ⟨H, 10, none⟩ = some (.int .i64 hi2) /\ w'.cell? ⟨H, 11, none⟩ = some (.int .i64 wt2) /\ w'.cell? ⟨H, 12, none⟩ = some (.string nm2) /\ w'.cell? ⟨H, 13, none⟩ = some (.slice A2 n2 c2)) W := fun W hW => ⟨Blk.cell hW.b 0, Blk.cell hW.b 1, Blk.cell hW.b 2, Blk.cell hW.b 3, Blk.cell hW.b 4, Blk.cell hW.b 5, Blk.cell hW.b 6, Blk.cell hW.b 7, Blk.cell hW.b 8, Blk.cell hW.b 9, Blk.cell hW.b 10, Blk.cell hW.b 11, Blk.cell hW.b 12, Blk.cell hW.b 13⟩
      have HRF := Lib.hid hRf; have hB0d := hbr.drew
      clear hRf hbr hH HB
      refine region_x 22 (fun w' : World => w'.cell? ⟨H, 0, none⟩ = some (.int .i64 c) /\ w'.cell? ⟨H, 1, none⟩ = some (.int .i64 cost) /\ w'.cell? ⟨H, 2, none⟩ = some (.int .i64 k1) /\ w'.cell? ⟨H, 3, none⟩ = some (.int .i64 lo1) /\ w'.cell? ⟨H, 4, none⟩ = some (.int .i64 hi1) /\ w'.cell? ⟨H, 5, none⟩ = some (.int .i64 wt1) /\ w'.cell? ⟨H, 6, none⟩ = some (.string nm1) /\ w'.cell? ⟨H, 7, none⟩ = some (.slice A1 n1 c1) /\ w'.cell? ⟨H, 8, none⟩ = some (.int .i64 k2) /\ w'.cell? ⟨H, 9, none⟩ = some (.int .i64 lo2) /\ w'.cell? ⟨H, 10, none⟩ = some (.int .i64 hi2) /\ w'.cell? ⟨H, 11, none⟩ = some (.int .i64 wt2) /\ w'.cell? ⟨H, 12, none⟩ = some (.string nm2) /\ w'.cell? ⟨H, 13, none⟩ = some (.slice A2 n2 c2)) (by kernel_rfl) ?_
      obtain ⟨V0, hV0⟩ : ∃ V0, V.drew = V0 := ⟨_, rfl⟩
      rw [hV0] at hB0d ⊢
      clear hV0 hV
      have hS := HRF.out _ hB0d
      have qs00 : True := trivial
      refine tkx (i := 0) (v := ?_) hS ?_ ?_
      rotate_left
      ·rintro w' ⟨r0, r1, r2, r3, r4, r5, r6, r7, r8, r9, r10, r11, r12, r13⟩
       go_simp
       try with_reducible rfl
      try simp only [Act.put, zq1, zq2, zq3, zq4, zq5, zq6]
      have qt0 : True := trivial
      refine tkx (i := 2) (v := ?_) hS ?_ ?_
      rotate_left
      ·rintro w' ⟨r0, r1, r2, r3, r4, r5, r6, r7, r8, r9, r10, r11, r12, r13⟩
       go_simp
       try with_reducible rfl
      try simp only [Act.put, zq1, zq2, zq3, zq4, zq5, zq6]
      have qt2 : True := trivial
      refine tkx (i := 3) (v := ?_) hS ?_ ?_
      rotate_left
      ·rintro w' ⟨r0, r1, r2, r3, r4, r5, r6, r7, r8, r9, r10, r11, r12, r13⟩
       go_simp
       try with_reducible rfl
      try simp only [Act.put, zq1, zq2, zq3, zq4, zq5, zq6]
      have qt3 : True := trivial
      refine tkx (i := 7) (v := ?_) hS ?_ ?_
      rotate_left
      ·rintro w' ⟨r0, r1, r2, r3, r4, r5, r6, r7, r8, r9, r10, r11, r12, r13⟩
       go_simp
       try with_reducible rfl
      try simp only [Act.put, zq1, zq2, zq3, zq4, zq5, zq6]
      have qt7 : True := trivial
      refine tkx (i := 8) (v := ?_) hS ?_ ?_
      rotate_left
      ·rintro w' ⟨r0, r1, r2, r3, r4, r5, r6, r7, r8, r9, r10, r11, r12, r13⟩
       go_simp
       try with_reducible rfl
      try simp only [Act.put, zq1, zq2, zq3, zq4, zq5, zq6]
      have qt8 : True := trivial
      refine tkx (i := 12) (v := ?_) hS ?_ ?_
      rotate_left
      ·rintro w' ⟨r0, r1, r2, r3, r4, r5, r6, r7, r8, r9, r10, r11, r12, r13⟩
       go_simp
       try with_reducible rfl
      try simp only [Act.put, zq1, zq2, zq3, zq4, zq5, zq6]
      have qt12 : True := trivial
      refine tkx (i := 13) (v := ?_) hS ?_ ?_
      rotate_left
      ·rintro w' ⟨r0, r1, r2, r3, r4, r5, r6, r7, r8, r9, r10, r11, r12, r13⟩
       go_simp
       try with_reducible rfl
      try simp only [Act.put, zq1, zq2, zq3, zq4, zq5, zq6]
      have qt13 : True := trivial
      refine tkx (i := 17) (v := ?_) hS ?_ ?_
      rotate_left
      ·rintro w' ⟨r0, r1, r2, r3, r4, r5, r6, r7, r8, r9, r10, r11, r12, r13⟩
       go_simp
       try with_reducible rfl
      try simp only [Act.put, zq1, zq2, zq3, zq4, zq5, zq6]
      have qt17 : True := trivial
      refine tkx (i := 18) (v := ?_) hS ?_ ?_
      rotate_left
      ·rintro w' ⟨r0, r1, r2, r3, r4, r5, r6, r7, r8, r9, r10, r11, r12, r13⟩
       go_simp
       try with_reducible rfl
      try simp only [Act.put, zq1, zq2, zq3, zq4, zq5, zq6]
      have qt18 : True := trivial
      all_goals (
       clear qs00
       refine anyX_2 (i := 1) (j := 9) (by kernel_rfl) (by decide) (by decide) rfl rfl rfl rfl ?_ ?_
       focus
        intro K hK
        try simp only [zq1, zq2, zq3]
        go_simp
        obtain ⟨V1, eV⟩ : ∃ W', V0.alloc (.cells #[.string ⟨#[108, 105, 110, 101, 32]⟩, .string ⟨#[104, 121, 112, 104, 101, 110, 32]⟩, .string ⟨#[101, 109, 101, 114, 103, 101, 110, 99, 121, 32]⟩] 9) = W' := ⟨_, rfl⟩
        have hb : Below V0.heap.size V0 V1 := by rw [<- eV]; exact (Below.refl _ _).alloc (Nat.le_refl _) _
        have xa : Blk V1 V0.heap.size 9 #[.string ⟨#[108, 105, 110, 101, 32]⟩, .string ⟨#[104, 121, 112, 104, 101, 110, 32]⟩, .string ⟨#[101, 109, 101, 114, 103, 101, 110, 99, 121, 32]⟩] := by rw [<- eV]; exact Blk.new _ _ _
        rw [eV]
        have hR1 := hB0d.bel hb
        have hS1 := HRF.out _ hR1
        clear eV hb
        refine hK _ _ hS1 ?_
        clear hK
        try simp only [Act.put, zq1, zq2, zq3, zq4, zq5, zq6]
        have qs10 : True := trivial
       rotate_left
       focus
        intro K hK
        try simp only [zq1, zq2, zq3]
        refine wp_enterE #[.int .i64 cost] Tryz.func36 (by kernel_rfl) (by kernel_rfl) ?_ (HDIG.out _) ?_
        ·go_simp
        rintro e V1 ⟨t1, rfl, ht1, hz1, hb⟩
        refine ⟨_, rfl, ?_⟩
        have hR1 := hB0d.bel hb
        have hS1 := HRF.out _ hR1
        have hs1 : t1.size <= 100000 := by rw [hz1]; exact HL0.out
        have HT1 := Lib.hid ht1; clear ht1 hz1
        clear hb
        refine hK _ _ hS1 ?_
        clear hK
        try simp only [Act.put, zq1, zq2, zq3, zq4, zq5, zq6]
        have qs01 : True := trivial)
      all_goals try (
       first | (clear qs10; have qs10 : True := trivial)
       fail_if_success (clear qt4)
       refine tkx (i := 4) (v := ?_) hS1 ?_ ?_
       rotate_left
       ·rintro w' ⟨r0, r1, r2, r3, r4, r5, r6, r7, r8, r9, r10, r11, r12, r13⟩
        go_simp
        try with_reducible rfl
       try simp only [Act.put, zq1, zq2, zq3, zq4, zq5, zq6]
       have qt4 : True := trivial)
      all_goals try (
       clear qs01
       refine anyX_2 (i := 1) (j := 14) (by kernel_rfl) (by decide) (by decide) rfl rfl rfl rfl ?_ ?_
       focus
        intro K hK
        try simp only [zq1, zq2, zq3]
        go_simp
        obtain ⟨V2, eV⟩ : ∃ W', V1.alloc (.cells #[.string ⟨#[108, 105, 110, 101, 32]⟩, .string ⟨#[104, 121, 112, 104, 101, 110, 32]⟩, .string ⟨#[101, 109, 101, 114, 103, 101, 110, 99, 121, 32]⟩] 9) = W' := ⟨_, rfl⟩
        have hb : Below V1.heap.size V1 V2 := by rw [<- eV]; exact (Below.refl _ _).alloc (Nat.le_refl _) _
        have xa : Blk V2 V1.heap.size 9 #[.string ⟨#[108, 105, 110, 101, 32]⟩, .string ⟨#[104, 121, 112, 104, 101, 110, 32]⟩, .string ⟨#[101, 109, 101, 114, 103, 101, 110, 99, 121, 32]⟩] := by rw [<- eV]; exact Blk.new _ _ _
        rw [eV]
        have hR2 := hR1.bel hb
        have hS2 := HRF.out _ hR2
        clear eV hb
        refine hK _ _ hS2 ?_
        clear hK
        try simp only [Act.put, zq1, zq2, zq3, zq4, zq5, zq6]
        have qs11 : True := trivial
       rotate_left
       focus
        intro K hK
        try simp only [zq1, zq2, zq3]
        refine wp_enterE #[.agg #[.int .i64 k1, .int .i64 lo1, .int .i64 hi1, .int .i64 wt1, .string nm1, .slice A1 n1 c1]] Tryz.func22 (by kernel_rfl) (by kernel_rfl) ?_ (HC1.out _ hR1.below) ?_
        ·go_simp
        rintro e V2 ⟨t2, rfl, ht2, hz2, hb⟩
        refine ⟨_, rfl, ?_⟩
        have hR2 := hR1.bel hb
        have hS2 := HRF.out _ hR2
        have hs2 : t2.size <= 100000 := by rw [hz2]; exact HL1.out
        have HT2 := Lib.hid ht2; clear ht2 hz2
        clear hb
        refine hK _ _ hS2 ?_
        clear hK
        try simp only [Act.put, zq1, zq2, zq3, zq4, zq5, zq6]
        have qs02 : True := trivial)
      all_goals try (
       clear qs10
       refine anyX_2 (i := 5) (j := 9) (by kernel_rfl) (by decide) (by decide) rfl rfl rfl rfl ?_ ?_
       focus
        intro K hK
        try simp only [zq1, zq2, zq3]
        obtain ⟨tc, htc, hsc, ca⟩ := cat_cell xa (show c <= 2 by omega)
        have HTC := Lib.hid htc; clear htc
        go_simp
        have hR2 := hR1
        have hS2 := hS1
        refine hK _ _ hS1 ?_
        clear hK ca xa
        try simp only [Act.put, zq1, zq2, zq3, zq4, zq5, zq6]
        have qs20 : True := trivial
       rotate_left
       focus
        intro K hK
        try simp only [zq1, zq2, zq3]
        refine wp_enterE #[.int .i64 cost] Tryz.func36 (by kernel_rfl) (by kernel_rfl) ?_ (HDIG.out _) ?_
        ·go_simp
        rintro e V2 ⟨t1, rfl, ht1, hz1, hb⟩
        refine ⟨_, rfl, ?_⟩
        have hR2 := hR1.bel hb
        have hS2 := HRF.out _ hR2
        have hs1 : t1.size <= 100000 := by rw [hz1]; exact HL0.out
        have HT1 := Lib.hid ht1; clear ht1 hz1
        replace xa := Blk.below xa hb (Blk.lt xa)
        clear hb
        refine hK _ _ hS2 ?_
        clear hK
        try simp only [Act.put, zq1, zq2, zq3, zq4, zq5, zq6]
        have qs11 : True := trivial)
      all_goals try (
       first | (clear qs11; have qs11 : True := trivial) | (clear qs20; have qs20 : True := trivial)
       fail_if_success (clear qt4)
       refine tkx (i := 4) (v := ?_) hS2 ?_ ?_
       rotate_left
       ·rintro w' ⟨r0, r1, r2, r3, r4, r5, r6, r7, r8, r9, r10, r11, r12, r13⟩
        go_simp
        try with_reducible rfl
       try simp only [Act.put, zq1, zq2, zq3, zq4, zq5, zq6]
       have qt4 : True := trivial)
      all_goals try (
       first | (clear qs20; have qs20 : True := trivial)
       fail_if_success (clear qt6)
       have g1 : ¬ 9223372036854775807 < tb.size + tc.size := by omega
       refine tkx (i := 6) (v := ?_) hS2 ?_ ?_
       rotate_left
       ·rintro w' ⟨r0, r1, r2, r3, r4, r5, r6, r7, r8, r9, r10, r11, r12, r13⟩
        go_simp
        try with_reducible rfl
       try simp only [Act.put, zq1, zq2, zq3, zq4, zq5, zq6]
       have qt6 : True := trivial)
      all_goals try (
       clear qs02
       refine anyX_2 (i := 1) (j := 19) (by kernel_rfl) (by decide) (by decide) rfl rfl rfl rfl ?_ ?_
       focus
        intro K hK
        try simp only [zq1, zq2, zq3]
        go_simp
        obtain ⟨V3, eV⟩ : ∃ W', V2.alloc (.cells #[.string ⟨#[108, 105, 110, 101, 32]⟩, .string ⟨#[104, 121, 112, 104, 101, 110, 32]⟩, .string ⟨#[101, 109, 101, 114, 103, 101, 110, 99, 121, 32]⟩] 9) = W' := ⟨_, rfl⟩
        have hb : Below V2.heap.size V2 V3 := by rw [<- eV]; exact (Below.refl _ _).alloc (Nat.le_refl _) _
        have xa : Blk V3 V2.heap.size 9 #[.string ⟨#[108, 105, 110, 101, 32]⟩, .string ⟨#[104, 121, 112, 104, 101, 110, 32]⟩, .string ⟨#[101, 109, 101, 114, 103, 101, 110, 99, 121, 32]⟩] := by rw [<- eV]; exact Blk.new _ _ _
        rw [eV]
        have hR3 := hR2.bel hb
        have hS3 := HRF.out _ hR3
        clear eV hb
        refine hK _ _ hS3 ?_
        clear hK
        try simp only [Act.put, zq1, zq2, zq3, zq4, zq5, zq6]
        have qs12 : True := trivial
       rotate_left
       focus
        intro K hK
        try simp only [zq1, zq2, zq3]
        refine wp_enterE #[.agg #[.int .i64 k2, .int .i64 lo2, .int .i64 hi2, .int .i64 wt2, .string nm2, .slice A2 n2 c2]] Tryz.func22 (by kernel_rfl) (by kernel_rfl) ?_ (HC2.out _ hR2.below) ?_
        ·go_simp
        rintro e V3 ⟨t3, rfl, ht3, hz3, hb⟩
        refine ⟨_, rfl, ?_⟩
        have hR3 := hR2.bel hb
        have hS3 := HRF.out _ hR3
        have hs3 : t3.size <= 100000 := by rw [hz3]; exact HL2.out
        have HT3 := Lib.hid ht3; clear ht3 hz3
        clear hb
        refine hK _ _ hS3 ?_
        clear hK
        try simp only [Act.put, zq1, zq2, zq3, zq4, zq5, zq6]
        have qs03 : True := trivial)
      all_goals try (
       clear qs11
       refine anyX_2 (i := 5) (j := 14) (by kernel_rfl) (by decide) (by decide) rfl rfl rfl rfl ?_ ?_
       focus
        intro K hK
        try simp only [zq1, zq2, zq3]
        obtain ⟨tc, htc, hsc, ca⟩ := cat_cell xa (show c <= 2 by omega)
        have HTC := Lib.hid htc; clear htc
        go_simp
        have hR3 := hR2
        have hS3 := hS2
        refine hK _ _ hS2 ?_
        clear hK ca xa
        try simp only [Act.put, zq1, zq2, zq3, zq4, zq5, zq6]
        have qs21 : True := trivial
       rotate_left
       focus
        intro K hK
        try simp only [zq1, zq2, zq3]
        refine wp_enterE #[.agg #[.int .i64 k1, .int .i64 lo1, .int .i64 hi1, .int .i64 wt1, .string nm1, .slice A1 n1 c1]] Tryz.func22 (by kernel_rfl) (by kernel_rfl) ?_ (HC1.out _ hR2.below) ?_
        ·go_simp
        rintro e V3 ⟨t2, rfl, ht2, hz2, hb⟩
        refine ⟨_, rfl, ?_⟩
        have hR3 := hR2.bel hb
        have hS3 := HRF.out _ hR3
        have hs2 : t2.size <= 100000 := by rw [hz2]; exact HL1.out
        have HT2 := Lib.hid ht2; clear ht2 hz2
        replace xa := Blk.below xa hb (Blk.lt xa)
        clear hb
        refine hK _ _ hS3 ?_
        clear hK
        try simp only [Act.put, zq1, zq2, zq3, zq4, zq5, zq6]
        have qs12 : True := trivial)
      all_goals try (
       clear qs20
       refine anyX_g (i := 9) (by kernel_rfl) (by decide) rfl (by rfl) ?_
       intro K hK
       try simp only [zq1, zq2, zq3]
       refine wp_enterE #[.int .i64 cost] Tryz.func36 (by kernel_rfl) (by kernel_rfl) ?_ (HDIG.out _) ?_
       ·go_simp
       rintro e V3 ⟨t1, rfl, ht1, hz1, hb⟩
       refine ⟨_, rfl, ?_⟩
       have hR3 := hR2.bel hb
       have hS3 := HRF.out _ hR3
       have hs1 : t1.size <= 100000 := by rw [hz1]; exact HL0.out
       have HT1 := Lib.hid ht1; clear ht1 hz1
       clear hb
       refine hK _ _ hS3 ?_
       clear hK
       try simp only [Act.put, zq1, zq2, zq3, zq4, zq5, zq6]
       have qs21 : True := trivial)
      all_goals try (
       first | (clear qs12; have qs12 : True := trivial) | (clear qs21; have qs21 : True := trivial)
       fail_if_success (clear qt4)
       refine tkx (i := 4) (v := ?_) hS3 ?_ ?_
       rotate_left
       ·rintro w' ⟨r0, r1, r2, r3, r4, r5, r6, r7, r8, r9, r10, r11, r12, r13⟩
        go_simp
        try with_reducible rfl
       try simp only [Act.put, zq1, zq2, zq3, zq4, zq5, zq6]
       have qt4 : True := trivial)
      all_goals try (
       first | (clear qs21; have qs21 : True := trivial)
       fail_if_success (clear qt6)
       have g1 : ¬ 9223372036854775807 < tb.size + tc.size := by omega
       refine tkx (i := 6) (v := ?_) hS3 ?_ ?_
       rotate_left
       ·rintro w' ⟨r0, r1, r2, r3, r4, r5, r6, r7, r8, r9, r10, r11, r12, r13⟩
        go_simp
        try with_reducible rfl
       try simp only [Act.put, zq1, zq2, zq3, zq4, zq5, zq6]
       have qt6 : True := trivial)
      all_goals try (
       first | (clear qs21; have qs21 : True := trivial)
       fail_if_success (clear qt10)
       have g2 : ¬ 9223372036854775807 < tb.size + tc.size + t1.size := by omega
       refine tkx (i := 10) (v := ?_) hS3 ?_ ?_
       rotate_left
       ·rintro w' ⟨r0, r1, r2, r3, r4, r5, r6, r7, r8, r9, r10, r11, r12, r13⟩
        go_simp
        try with_reducible rfl
       try simp only [Act.put, zq1, zq2, zq3, zq4, zq5, zq6]
       have qt10 : True := trivial)
      all_goals try (
       first | (clear qs21; have qs21 : True := trivial)
       fail_if_success (clear qt11)
       have g3 : ¬ 9223372036854775807 < tb.size + tc.size + t1.size + 3 := by omega
       refine tkx (i := 11) (v := ?_) hS3 ?_ ?_
       rotate_left
       ·rintro w' ⟨r0, r1, r2, r3, r4, r5, r6, r7, r8, r9, r10, r11, r12, r13⟩
        go_simp
        try with_reducible rfl
       try simp only [Act.put, zq1, zq2, zq3, zq4, zq5, zq6]
       have qt11 : True := trivial)
      all_goals try (
       clear qs03
       refine anyX_g (i := 1) (by kernel_rfl) (by decide) rfl (by rfl) ?_
       intro K hK
       try simp only [zq1, zq2, zq3]
       go_simp
       obtain ⟨V4, eV⟩ : ∃ W', V3.alloc (.cells #[.string ⟨#[108, 105, 110, 101, 32]⟩, .string ⟨#[104, 121, 112, 104, 101, 110, 32]⟩, .string ⟨#[101, 109, 101, 114, 103, 101, 110, 99, 121, 32]⟩] 9) = W' := ⟨_, rfl⟩
       have hb : Below V3.heap.size V3 V4 := by rw [<- eV]; exact (Below.refl _ _).alloc (Nat.le_refl _) _
       have xa : Blk V4 V3.heap.size 9 #[.string ⟨#[108, 105, 110, 101, 32]⟩, .string ⟨#[104, 121, 112, 104, 101, 110, 32]⟩, .string ⟨#[101, 109, 101, 114, 103, 101, 110, 99, 121, 32]⟩] := by rw [<- eV]; exact Blk.new _ _ _
       rw [eV]
       have hR4 := hR3.bel hb
       have hS4 := HRF.out _ hR4
       clear eV hb
       refine hK _ _ hS4 ?_
       clear hK
       try simp only [Act.put, zq1, zq2, zq3, zq4, zq5, zq6]
       have qs13 : True := trivial)
      all_goals try (
       clear qs12
       refine anyX_2 (i := 5) (j := 19) (by kernel_rfl) (by decide) (by decide) rfl rfl rfl rfl ?_ ?_
       focus
        intro K hK
        try simp only [zq1, zq2, zq3]
        obtain ⟨tc, htc, hsc, ca⟩ := cat_cell xa (show c <= 2 by omega)
        have HTC := Lib.hid htc; clear htc
        go_simp
        have hR4 := hR3
        have hS4 := hS3
        refine hK _ _ hS3 ?_
        clear hK ca xa
        try simp only [Act.put, zq1, zq2, zq3, zq4, zq5, zq6]
        have qs22 : True := trivial
       rotate_left
       focus
        intro K hK
        try simp only [zq1, zq2, zq3]
        refine wp_enterE #[.agg #[.int .i64 k2, .int .i64 lo2, .int .i64 hi2, .int .i64 wt2, .string nm2, .slice A2 n2 c2]] Tryz.func22 (by kernel_rfl) (by kernel_rfl) ?_ (HC2.out _ hR3.below) ?_
        ·go_simp
        rintro e V4 ⟨t3, rfl, ht3, hz3, hb⟩
        refine ⟨_, rfl, ?_⟩
        have hR4 := hR3.bel hb
        have hS4 := HRF.out _ hR4
        have hs3 : t3.size <= 100000 := by rw [hz3]; exact HL2.out
        have HT3 := Lib.hid ht3; clear ht3 hz3
        replace xa := Blk.below xa hb (Blk.lt xa)
        clear hb
        refine hK _ _ hS4 ?_
        clear hK
        try simp only [Act.put, zq1, zq2, zq3, zq4, zq5, zq6]
        have qs13 : True := trivial)
      all_goals try (
       clear qs21
       refine anyX_g (i := 14) (by kernel_rfl) (by decide) rfl (by rfl) ?_
       intro K hK
       try simp only [zq1, zq2, zq3]
       refine wp_enterE #[.agg #[.int .i64 k1, .int .i64 lo1, .int .i64 hi1, .int .i64 wt1, .string nm1, .slice A1 n1 c1]] Tryz.func22 (by kernel_rfl) (by kernel_rfl) ?_ (HC1.out _ hR3.below) ?_
       ·go_simp
       rintro e V4 ⟨t2, rfl, ht2, hz2, hb⟩
       refine ⟨_, rfl, ?_⟩
       have hR4 := hR3.bel hb
       have hS4 := HRF.out _ hR4
       have hs2 : t2.size <= 100000 := by rw [hz2]; exact HL1.out
       have HT2 := Lib.hid ht2; clear ht2 hz2
       clear hb
       refine hK _ _ hS4 ?_
       clear hK
       try simp only [Act.put, zq1, zq2, zq3, zq4, zq5, zq6]
       have qs22 : True := trivial)
      all_goals try (
       first | (clear qs13; have qs13 : True := trivial) | (clear qs22; have qs22 : True := trivial)
       fail_if_success (clear qt4)
       refine tkx (i := 4) (v := ?_) hS4 ?_ ?_
       rotate_left
       ·rintro w' ⟨r0, r1, r2, r3, r4, r5, r6, r7, r8, r9, r10, r11, r12, r13⟩
        go_simp
        try with_reducible rfl
       try simp only [Act.put, zq1, zq2, zq3, zq4, zq5, zq6]
       have qt4 : True := trivial)
      all_goals try (
       first | (clear qs22; have qs22 : True := trivial)
       fail_if_success (clear qt6)
       have g1 : ¬ 9223372036854775807 < tb.size + tc.size := by omega
       refine tkx (i := 6) (v := ?_) hS4 ?_ ?_
       rotate_left
       ·rintro w' ⟨r0, r1, r2, r3, r4, r5, r6, r7, r8, r9, r10, r11, r12, r13⟩
        go_simp
        try with_reducible rfl
       try simp only [Act.put, zq1, zq2, zq3, zq4, zq5, zq6]
       have qt6 : True := trivial)
      all_goals try (
       first | (clear qs22; have qs22 : True := trivial)
       fail_if_success (clear qt10)
       have g2 : ¬ 9223372036854775807 < tb.size + tc.size + t1.size := by omega
       refine tkx (i := 10) (v := ?_) hS4 ?_ ?_
       rotate_left
       ·rintro w' ⟨r0, r1, r2, r3, r4, r5, r6, r7, r8, r9, r10, r11, r12, r13⟩
        go_simp
        try with_reducible rfl
       try simp only [Act.put, zq1, zq2, zq3, zq4, zq5, zq6]
       have qt10 : True := trivial)
      all_goals try (
       first | (clear qs22; have qs22 : True := trivial)
       fail_if_success (clear qt11)
       have g3 : ¬ 9223372036854775807 < tb.size + tc.size + t1.size + 3 := by omega
       refine tkx (i := 11) (v := ?_) hS4 ?_ ?_
       rotate_left
       ·rintro w' ⟨r0, r1, r2, r3, r4, r5, r6, r7, r8, r9, r10, r11, r12, r13⟩
        go_simp
        try with_reducible rfl
       try simp only [Act.put, zq1, zq2, zq3, zq4, zq5, zq6]
       have qt11 : True := trivial)
      all_goals try (
       first | (clear qs22; have qs22 : True := trivial)
       fail_if_success (clear qt15)
       have g4 : ¬ 9223372036854775807 < tb.size + tc.size + t1.size + 3 + t2.size := by omega
       refine tkx (i := 15) (v := ?_) hS4 ?_ ?_
       rotate_left
       ·rintro w' ⟨r0, r1, r2, r3, r4, r5, r6, r7, r8, r9, r10, r11, r12, r13⟩
        go_simp
        try with_reducible rfl
       try simp only [Act.put, zq1, zq2, zq3, zq4, zq5, zq6]
       have qt15 : True := trivial)
      all_goals try (
       first | (clear qs22; have qs22 : True := trivial)
       fail_if_success (clear qt16)
       have g5 : ¬ 9223372036854775807 < tb.size + tc.size + t1.size + 3 + t2.size + 3 := by omega
       refine tkx (i := 16) (v := ?_) hS4 ?_ ?_
       rotate_left
       ·rintro w' ⟨r0, r1, r2, r3, r4, r5, r6, r7, r8, r9, r10, r11, r12, r13⟩
        go_simp
        try with_reducible rfl
       try simp only [Act.put, zq1, zq2, zq3, zq4, zq5, zq6]
       have qt16 : True := trivial)
      all_goals try (
       clear qs13
       refine anyX_g (i := 5) (by kernel_rfl) (by decide) rfl (by rfl) ?_
       intro K hK
       try simp only [zq1, zq2, zq3]
       obtain ⟨tc, htc, hsc, ca⟩ := cat_cell xa (show c <= 2 by omega)
       have HTC := Lib.hid htc; clear htc
       go_simp
       have hR5 := hR4
       have hS5 := hS4
       refine hK _ _ hS4 ?_
       clear hK ca xa
       try simp only [Act.put, zq1, zq2, zq3, zq4, zq5, zq6]
       have qs23 : True := trivial)
      all_goals try (
       clear qs22
       refine anyX_g (i := 19) (by kernel_rfl) (by decide) rfl (by rfl) ?_
       intro K hK
       try simp only [zq1, zq2, zq3]
       refine wp_enterE #[.agg #[.int .i64 k2, .int .i64 lo2, .int .i64 hi2, .int .i64 wt2, .string nm2, .slice A2 n2 c2]] Tryz.func22 (by kernel_rfl) (by kernel_rfl) ?_ (HC2.out _ hR4.below) ?_
       ·go_simp
       rintro e V5 ⟨t3, rfl, ht3, hz3, hb⟩
       refine ⟨_, rfl, ?_⟩
       have hR5 := hR4.bel hb
       have hS5 := HRF.out _ hR5
       have hs3 : t3.size <= 100000 := by rw [hz3]; exact HL2.out
       have HT3 := Lib.hid ht3; clear ht3 hz3
       clear hb
       refine hK _ _ hS5 ?_
       clear hK
       try simp only [Act.put, zq1, zq2, zq3, zq4, zq5, zq6]
       have qs23 : True := trivial)
      all_goals try (
       first | (clear qs23; have qs23 : True := trivial)
       fail_if_success (clear qt6)
       have g1 : ¬ 9223372036854775807 < tb.size + tc.size := by omega
       refine tkx (i := 6) (v := ?_) hS5 ?_ ?_
       rotate_left
       ·rintro w' ⟨r0, r1, r2, r3, r4, r5, r6, r7, r8, r9, r10, r11, r12, r13⟩
        go_simp
        try with_reducible rfl
       try simp only [Act.put, zq1, zq2, zq3, zq4, zq5, zq6]
       have qt6 : True := trivial)
      all_goals try (
       first | (clear qs23; have qs23 : True := trivial)
       fail_if_success (clear qt10)
       have g2 : ¬ 9223372036854775807 < tb.size + tc.size + t1.size := by omega
       refine tkx (i := 10) (v := ?_) hS5 ?_ ?_
       rotate_left
       ·rintro w' ⟨r0, r1, r2, r3, r4, r5, r6, r7, r8, r9, r10, r11, r12, r13⟩
        go_simp
        try with_reducible rfl
       try simp only [Act.put, zq1, zq2, zq3, zq4, zq5, zq6]
       have qt10 : True := trivial)
      all_goals try (
       first | (clear qs23; have qs23 : True := trivial)
       fail_if_success (clear qt11)
       have g3 : ¬ 9223372036854775807 < tb.size + tc.size + t1.size + 3 := by omega
       refine tkx (i := 11) (v := ?_) hS5 ?_ ?_
       rotate_left
       ·rintro w' ⟨r0, r1, r2, r3, r4, r5, r6, r7, r8, r9, r10, r11, r12, r13⟩
        go_simp
        try with_reducible rfl
       try simp only [Act.put, zq1, zq2, zq3, zq4, zq5, zq6]
       have qt11 : True := trivial)
      all_goals try (
       first | (clear qs23; have qs23 : True := trivial)
       fail_if_success (clear qt15)
       have g4 : ¬ 9223372036854775807 < tb.size + tc.size + t1.size + 3 + t2.size := by omega
       refine tkx (i := 15) (v := ?_) hS5 ?_ ?_
       rotate_left
       ·rintro w' ⟨r0, r1, r2, r3, r4, r5, r6, r7, r8, r9, r10, r11, r12, r13⟩
        go_simp
        try with_reducible rfl
       try simp only [Act.put, zq1, zq2, zq3, zq4, zq5, zq6]
       have qt15 : True := trivial)
      all_goals try (
       first | (clear qs23; have qs23 : True := trivial)
       fail_if_success (clear qt16)
       have g5 : ¬ 9223372036854775807 < tb.size + tc.size + t1.size + 3 + t2.size + 3 := by omega
       refine tkx (i := 16) (v := ?_) hS5 ?_ ?_
       rotate_left
       ·rintro w' ⟨r0, r1, r2, r3, r4, r5, r6, r7, r8, r9, r10, r11, r12, r13⟩
        go_simp
        try with_reducible rfl
       try simp only [Act.put, zq1, zq2, zq3, zq4, zq5, zq6]
       have qt16 : True := trivial)
      all_goals (
       first | (clear qs23; have qs23 : True := trivial)
       fail_if_success (clear qt20)
       have g6 : ¬ 9223372036854775807 < tb.size + tc.size + t1.size + 3 + t2.size + 3 + t3.size := by omega
       refine tkx (i := 20) (v := ?_) hS5 ?_ ?_
       rotate_left
       ·rintro w' ⟨r0, r1, r2, r3, r4, r5, r6, r7, r8, r9, r10, r11, r12, r13⟩
        go_simp
        try with_reducible rfl
       try simp only [Act.put, zq1, zq2, zq3, zq4, zq5, zq6]
       have qt20 : True := trivial)
      all_goals (
       first | (clear qs23; have qs23 : True := trivial)
       fail_if_success (clear qt21)
       have g7 : ¬ 9223372036854775807 < tb.size + tc.size + t1.size + 3 + t2.size + 3 + t3.size + 2 := by omega
       refine tkx (i := 21) (v := ?_) hS5 ?_ ?_
       rotate_left
       ·rintro w' ⟨r0, r1, r2, r3, r4, r5, r6, r7, r8, r9, r10, r11, r12, r13⟩
        go_simp
        try with_reducible rfl
       try simp only [Act.put, zq1, zq2, zq3, zq4, zq5, zq6]
       have qt21 : True := trivial)
      all_goals (
       have HE := Lib.hid hR5.box
       refine anyX_last (by kernel_rfl) (by kernel_rfl) rfl rfl ?_
       try simp only [zq1, zq2, zq3]
       go_simp
       try apply_assumption
       clear g1 g2 g3 g4 g5 g6 g7
       go_wp2_with fail
       go_roundg (nr - (j + 1))
       case measure => have := HGK.out; omega
       case rel =>
        refine ⟨j + 1, _, rfl, by go_num, rfl, hjt, ?_, Lib.hid (by rw [HTK.out]; simp [HTL.out, HTC.out, HT1.out, HT2.out, HT3.out]), HE⟩
        have h0 := HB1.out
        have h1 : t1.size = L0.length := by rw [size_list, HT1.out]
        have h2 : t2.size = L1.length := by rw [size_list, HT2.out]
        have h3 : t3.size = L2.length := by rw [size_list, HT3.out]
        have h4 : tc.size = (catW c).length + 1 := by rw [size_list, HTC.out, List.length_append]; rfl
        simp only [ByteArray.size_append]
        have e1 : (ByteArray.mk #[32, 58, 32]).size = 3 := rfl
        have e2 : (ByteArray.mk #[32, 47, 32]).size = 3 := rfl
        have e3 : (ByteArray.mk #[59, 10]).size = 2 := rfl
        omega)
     ·have hjn' : j = nr := by omega
      have htl := HTL.out
      rw [List.take_of_length_le (by rw [<- HNR.out]; omega)] at htl
      have HF := Lib.hid htl; have HE := Lib.hid HB.out.below
      clear hjn' htl HB HTL HRG HGK
      go_wp2_with fail
      go_ret
      exact WrR.mk' _ HF.out HE.out
end Go.Proofs.YtalgnnidhnhciaaGreatDoor

set_option linter.unusedVariables false
set_option linter.unusedSimpArgs false
set_option maxRecDepth 100000
set_option maxHeartbeats 16000000
namespace Go.Proofs.YtalgnnidhnhciaaGreatDoor
open Go Go.RowKit Go.Proofs
theorem defs_cls (l : List DefP) : ∀ D, defsOk D l -> ∀ d ∈ l, ∃ D, d.c.Ok D := by
 induction l with
 | nil => intro D _ d hd; cases hd
 | cons x l ih =>
   intro D h d hd
   rcases List.mem_cons.1 hd with rfl | hd
   ·exact ⟨_, h.1.2.2.1⟩
   ·exact ih _ h.2 d hd
theorem gap_cell {W : World} {H k : Nat} (h : Blk W H 9 #[.string ⟨#[]⟩, .string ⟨#[32]⟩, .string ⟨#[10]⟩, .string ⟨#[35, 32, 115, 111, 59, 32, 99, 108, 97, 115, 115, 10]⟩]) (hk : k < 4) : ∃ t : ByteArray, t.data.toList = gapOf k /\ t.size <= 12 /\ W.cell? ⟨H, k, none⟩ = some (.string t) := by
 have : k = 0 \/ k = 1 \/ k = 2 \/ k = 3 := by omega
 rcases this with rfl | rfl | rfl | rfl
 ·exact ⟨_, by rfl, by decide, Blk.cell h 0⟩
 ·exact ⟨_, by rfl, by decide, Blk.cell h 1⟩
 ·exact ⟨_, by rfl, by decide, Blk.cell h 2⟩
 ·exact ⟨_, by rfl, by decide, Blk.cell h 3⟩
theorem one_list (t : ByteArray) (i : Nat) (h : i < t.size) : (t.extract i (i + 1)).data.toList = [t[i]] := by
 have h' : i < t.data.toList.length := by rw [<- size_list]; exact h
 rw [ByteArray.data_extract, Array.toList_extract]
 simp only [List.extract_eq_take_drop]
 rw [show i + 1 - i = 1 by omega, List.take_one, List.head?_drop, List.getElem?_eq_getElem h']
 rfl
theorem take_snoc_b (t : ByteArray) (k : Nat) (h : k < t.size) : t.data.toList.take (k + 1) = t.data.toList.take k ++ [t[k]] := by
 rw [List.take_succ_eq_append_getElem (by rw [<- size_list]; exact h)]; rfl
theorem synBlanks_walk (lv : Value) (l : List RawP) (a1 : Option Addr) (len1 cap1 : Nat) (z1 : List Int) (a2 : Option Addr) (len2 cap2 : Nat) (z2 : List Int) (a3 : Option Addr) (len3 cap3 : Nat) (z3 : List Int) (w : World) (w0 : RawL w lv l) (w1 : IsRow .i64 w a1 len1 cap1 z1) (w2 : IsRow .i64 w a2 len2 cap2 z2) (w3 : IsRow .i64 w a3 len3 cap3 z3) (hE : ErrV w) (hT : TabD w) :
  Calls Tryz.prog 6 #[lv, .slice a1 len1 cap1, .slice a2 len2 cap2, .slice a3 len3 cap3] w fun e w' => e = .returned (.bool true) /\ Below w.heap.size w w' := by
  have hN := IntsR.of_row w1
  have hD := IntsR.of_row w2
  have hG := IntsR.of_row w3
  obtain ⟨ns, hns⟩ : ∃ ns, z1.take len1 = ns := ⟨_, rfl⟩
  obtain ⟨ds, hds⟩ : ∃ ns, z2.take len2 = ns := ⟨_, rfl⟩
  obtain ⟨gs, hgs⟩ : ∃ ns, z3.take len3 = ns := ⟨_, rfl⟩
  rw [hns] at hN
  rw [hds] at hD
  rw [hgs] at hG
  have hL := w0
  obtain ⟨LA, ll, lc, rfl, -⟩ := w0
  have hG0 := hG
  obtain ⟨GA, gn, gc, hge, hgn, hgc, hgm, -, hgcell⟩ := hG0
  injection hge with hg1 hg2 hg3
  subst hg1; subst hg2; subst hg3
  unfold maxLen at hgm
  have HKN := Lib.hid (known5_ok w hE hT); have HN := Lib.hid hN; have HD := Lib.hid hD; have HL := Lib.hid hL; have HE := Lib.hid hE; have HGC := Lib.hid hgcell; have HGN := Lib.hid hgn
  clear hE hT w1 w2 w3 hns hds hgs hN hD hG hL hgcell hgn
  go_enter Tryz.func6, Tryz.ntmps6
  go_wp2_with fail
  refine HKN.out.mono ?_
  rintro e W1 ⟨rfl, hb1⟩
  have hfw := few_any l W1 _ (HL.out.below hb1)
  have HB1 := Lib.hid hb1; clear hb1 HKN
  by_cases hfew : sizeR 6 l <= 30
  ·have hf : fewB l = true := by unfold fewB; simpa using hfew
   rw [hf] at hfw
   have HFW := Lib.hid hfw; have HFEW := Lib.hid hfew
   clear hfw hf hfew
   go_wp2_with fail
   refine HFW.out.mono ?_
   rintro e W ⟨rfl, rfl⟩
   have hFI := file_made l HFEW.out ns ds W1 _ _ _ (HL.out.below HB1.out) (HN.out.below HB1.out) (HD.out.below HB1.out)
   have hbl := fun h => blanks_parse HFEW.out ns ds gs h
   have hdl := defsOf_len ds
   have hrl := rulesOf_len l ns
   have hsml := rulesOf_small l HFEW.out ns
   have htxl := fileOf_text HFEW.out ns ds
   have hdok := defsOf_ok ds
   have hrok := rulesOf_ok HFEW.out ns ds
   obtain ⟨DF, hDF⟩ : ∃ x, defsOf ds = x := ⟨_, rfl⟩
   obtain ⟨RL, hRL⟩ : ∃ x, rulesOf l ns = x := ⟨_, rfl⟩
   rw [hDF] at hdl htxl hdok hFI hbl hrok
   rw [hRL] at hrl hsml htxl hFI hbl hrok
   have hcls : ∀ d ∈ DF, ∃ D, d.c.Ok D := defs_cls DF [] hdok
   obtain ⟨nd, hnd⟩ : ∃ x, DF.length = x := ⟨_, rfl⟩
   obtain ⟨nr, hnr⟩ : ∃ x, RL.length = x := ⟨_, rfl⟩
   rw [hnd] at hdl
   rw [hnr] at hrl
   obtain ⟨hd4, hd6⟩ := hdl
   have hld : (DF.map DefP.tree).length = nd := by rw [List.length_map, hnd]
   have hlr : (RL.map RuleP.tree).length = nr := by rw [List.length_map, hnr]
   have htxt := fun W S S' ds' rs' h1 h2 => rtext_ok DF RL hcls hsml (fun r hr => (hrok r hr).1) (Nat.le_trans htxl (by decide)) W S S' ds' rs' h1 h2
   obtain ⟨TX, hTX⟩ : ∃ x, defsText DF ++ rulesText RL = x := ⟨_, rfl⟩
   rw [hTX] at htxt htxl hbl
   have HTXT := Lib.hid htxt; have HTXL := Lib.hid htxl; have HND := Lib.hid hnd; have HNR := Lib.hid hnr; have HLD := Lib.hid hld; have HLR := Lib.hid hlr; have HBL := Lib.hid hbl; have HFI := Lib.hid hFI
   clear htxt htxl hnd hnr hld hlr hTX hsml hdok hrok hcls hbl hFI hDF hRL HN HD HL HFW HFEW
   go_wp2_with fail
   refine HFI.out.mono ?_
   rintro e W2 ⟨d1, r1, rfl, hd1, hr1, hb2⟩
   have hB2 : Below w.heap.size w W2 := HB1.out.trans (hb2.mono HB1.out.size)
   have HD1 := Lib.hid hd1.at_; have HR1 := Lib.hid hr1.at_; have HB2 := Lib.hid hB2
   obtain ⟨dA, dc, rfl, -, -, -⟩ := hd1.form
   obtain ⟨rA, rc, rfl, -, -, -⟩ := hr1.form
   rw [HLD.out] at HD1 ⊢
   rw [HLR.out] at HR1 ⊢
   clear hd1 hr1 hb2 hB2 HFI HB1
   go_wp2_with fail
   obtain ⟨W4, hW4⟩ : ∃ W4, W2.alloc (.cells #[.slice dA nd dc, .slice rA nr rc] 28) = W4 := ⟨_, rfl⟩
   have hb24 : Below W2.heap.size W2 W4 := by rw [<- hW4]; exact (Below.refl _ _).alloc (Nat.le_refl _) _
   have kf : Blk W4 W2.heap.size 28 #[.slice dA nd dc, .slice rA nr rc] := by rw [<- hW4]; exact Blk.new W2 _ _
   rw [hW4]
   obtain ⟨F, hF⟩ : ∃ x, W2.heap.size = x := ⟨_, rfl⟩
   rw [hF] at kf ⊢
   have hB4 : Below w.heap.size w W4 := HB2.out.trans (hb24.mono HB2.out.size)
   have HDA := Lib.hid (HD1.out.grow hb24); have HRA := Lib.hid (HR1.out.grow hb24)
   have ht := HTXT.out W4 _ _ _ _ HDA.out HRA.out
   have HTT := Lib.hid ht; have HB4 := Lib.hid hB4; have KF := Lib.hid kf
   clear ht hB4 kf hF hW4 hb24 HD1 HR1 HB2 HTXT
   have f0 := Blk.cell KF.out 0; have f1 := Blk.cell KF.out 1
   simp only [List.getElem?_toArray, List.getElem?_cons_zero, List.getElem?_cons_succ] at f0 f1
   go_wp2_with fail
   refine HTT.out.mono ?_
   rintro e W5 ⟨tx, rfl, htx, htz, hb5⟩
   have hB5 : Below w.heap.size w W5 := HB4.out.trans (hb5.mono HB4.out.size)
   have HDA5 := Lib.hid (HDA.out.grow hb5); have HRA5 := Lib.hid (HRA.out.grow hb5); have KF5 := Lib.hid (Blk.below KF.out hb5 KF.out.lt)
   have hn33 : tx.size <= 3376 := by rw [htz]; exact HTXL.out
   obtain ⟨n, hn⟩ : ∃ n, tx.size = n := ⟨_, rfl⟩
   rw [hn] at hn33
   have HTX := Lib.hid htx; have HSZ := Lib.hid hn; have HB5 := Lib.hid hB5
   clear htx htz hb5 hB5 HTT HDA HRA KF HB4 f0 f1
   go_wp2_with fail
   go_loopg [11, 12] n (fun gk vt vi wr => ∃ (i : Nat) (t : ByteArray), vt = .string t /\ vi = .int .i64 i /\ gk = n - i /\ i <= n /\ t.size <= 10 + 13 * i /\ Hid (t.data.toList = begins_ ++ laidIn gs 0 (TX.take i)) /\ Hid (Below W5.heap.size W5 wr))
   case atStart => exact ⟨0, ⟨#[32, 35, 32, 98, 101, 103, 105, 110, 115, 10]⟩, rfl, rfl, rfl, Nat.zero_le _, by decide, Lib.hid (by rfl), Lib.hid (Below.refl _ _)⟩
   case round =>
    obtain ⟨i, t, rfl, rfl, hgk, hin, hts, HTL, HB⟩ := hrel
    have HGK := Lib.hid hgk; clear hgk
    have i0 : (0 : Int) <= (i : Int) := Int.natCast_nonneg _
    have hsz := HSZ.out
    by_cases hlt : i < n
    ·have hit : i < tx.size := by omega
     have i1 : (i : Int) < (n : Int) := by omega
     have i1' : (i : Int) < (tx.size : Int) := by omega
     have i2 : (i : Int) + 1 <= (n : Int) := by omega
     have hsl : ∀ W : World, (Instr.slice 9 (.string tx) (some (.int .i64 (i : Int))) (some (.int .i64 ((i : Int) + 1))) none).run Tryz.prog W = .ok (.string (tx.extract i (i + 1))) W := fun W => by
      rw [run_slice_string W 9 tx .i64 .i64 (i : Int) ((i : Int) + 1) Tryz.underlying9 i0 (by omega) (by omega)]
      congr 3
     have htk : TX.take (i + 1) = TX.take i ++ [tx[i]] := by rw [<- HTX.out]; exact take_snoc_b tx i hit
     have hlen : (TX.take i).length = i := by rw [List.length_take, <- HTX.out, <- size_list]; omega
     have hex := one_list tx i hit
     have hsn := laidIn_snoc gs (tx[i]) (TX.take i) 0
     rw [<- htk, hlen, Nat.zero_add] at hsn
     have hx1 : (tx.extract i (i + 1)).size = 1 := by rw [size_list, hex]; rfl
     have g1 : ¬ 9223372036854775807 < t.size + (tx.extract i (i + 1)).size := by omega
     have g1' : ¬ 9223372036854775807 < t.size + 1 := by omega
     obtain ⟨x, hxv⟩ : ∃ x : Int, ((tx[i]).toNat : Int) = x := ⟨_, rfl⟩
     have hex2 : List.take 1 (List.drop i tx.data.toList) = [tx[i]] := by simpa using hex
     have HEX2 := Lib.hid hex2; clear hex2
     have HEX := Lib.hid hex; have HSN := Lib.hid hsn; have HX1 := Lib.hid hx1
     clear hex hsn htk hlen hx1
     by_cases h32 : tx[i] = 32
     ·have hx32 : x = 32 := by rw [<- hxv, h32]; rfl
      subst hx32
      have hb32 : (tx[i] == 32) = true := by simpa using h32
      have hsn := HSN.out
      simp only [hb32, if_true] at hsn
      have HSN := Lib.hid hsn; clear hsn hb32 h32
      by_cases hg : i < len3
      ·have hg' : (i : Int) < (len3 : Int) := by omega
       have tg : decide (i < len3) = true := by simpa using hg
       obtain ⟨z, hz⟩ : ∃ z, gs[i]? = some z := ⟨_, List.getElem?_eq_getElem (by rw [HGN.out]; exact hg)⟩
       obtain ⟨g, oo, rfl, hcz⟩ := HGC.out i z hz
       have hga : gapAt gs i = gapOf (wthN z 4) := by unfold gapAt; rw [hz]
       have hJ : wthN z 4 < 4 := wthN_lt z 4 (by omega)
       have hwc := fun W => wth_any z 4 (by omega) (by omega) W
       obtain ⟨J, hJe⟩ : ∃ J, wthN z 4 = J := ⟨_, rfl⟩
       rw [hJe] at hga hJ hwc
       have hcw : wr.cell? ⟨g, oo + i, none⟩ = some (.int .i64 z) := bel_c (HB5.out.trans (HB.out.mono HB5.out.size)) hcz
       have hcw' : (wr.alloc (.cells #[.string ⟨#[]⟩, .string ⟨#[32]⟩, .string ⟨#[10]⟩, .string ⟨#[35, 32, 115, 111, 59, 32, 99, 108, 97, 115, 115, 10]⟩] 9)).cell? ⟨g, oo + i, none⟩ = some (.int .i64 z) := by rw [World.cell?_alloc_past _ _ _ (World.block_lt_of_cell? wr _ hcw)]; exact hcw
       have HGA := Lib.hid hga; have HWC := Lib.hid hwc
       have hJ0 : (0 : Int) <= (J : Int) := Int.natCast_nonneg _
       have hJ1 : (J : Int) < 4 := by omega
       clear hga hwc hJe hz hcz
       go_wp2_with fail
       refine (HWC.out _).mono ?_
       rintro e V ⟨rfl, rfl⟩
       obtain ⟨V, hV⟩ : ∃ V, wr.alloc (.cells #[.string ⟨#[]⟩, .string ⟨#[32]⟩, .string ⟨#[10]⟩, .string ⟨#[35, 32, 115, 111, 59, 32, 99, 108, 97, 115, 115, 10]⟩] 9) = V := ⟨_, rfl⟩
       have hbv : Blk V wr.heap.size 9 #[.string ⟨#[]⟩, .string ⟨#[32]⟩, .string ⟨#[10]⟩, .string ⟨#[35, 32, 115, 111, 59, 32, 99, 108, 97, 115, 115, 10]⟩] := by rw [<- hV]; exact Blk.new _ _ _
       have hbb : Below W5.heap.size W5 V := by rw [<- hV]; exact HB.out.alloc HB.out.size _
       rw [hV]
       obtain ⟨tg2, htg, hsg, cg⟩ := gap_cell hbv hJ
       have g2 : ¬ 9223372036854775807 < (t ++ tx.extract i (i + 1)).size + tg2.size := by rw [ByteArray.size_append, HX1.out]; omega
       have g2' : ¬ 9223372036854775807 < t.size + (tx.extract i (i + 1)).size + tg2.size := by rw [HX1.out]; omega
       have g2'' : ¬ 9223372036854775807 < t.size + 1 + tg2.size := by omega
       have HTG := Lib.hid htg; have HBB := Lib.hid hbb
       clear htg hbb hbv hV hcw hcw'
       go_wp2_with fail
       go_roundg (n - (i + 1))
       case measure => have := HGK.out; omega
       case rel => exact ⟨i + 1, _, rfl, by go_num, rfl, hlt, by simp only [ByteArray.size_append, HX1.out]; omega, Lib.hid (by rw [HSN.out]; simp [HTL.out, HEX2.out, HTG.out, HGA.out]), HBB⟩
      ·have hg' : ¬ (i : Int) < (len3 : Int) := by omega
       have tg : decide (i < len3) = false := by simpa using hg
       have hga : gapAt gs i = [] := by unfold gapAt; rw [List.getElem?_eq_none (by rw [HGN.out]; omega)]
       have HGA := Lib.hid hga
       clear hga
       go_wp2_with fail
       go_roundg (n - (i + 1))
       case measure => have := HGK.out; omega
       case rel => exact ⟨i + 1, _, rfl, by go_num, rfl, hlt, by simp only [ByteArray.size_append, HX1.out]; omega, Lib.hid (by rw [HSN.out]; simp [HTL.out, HEX2.out, HGA.out]), HB⟩
     ·have hx32 : (x == 32) = false := by
       have : ¬ x = 32 := by
        intro e
        rw [<- hxv] at e
        exact h32 (UInt8.toNat_inj.1 (by have : (tx[i]).toNat = 32 := by omega
                                         rw [this]; rfl))
       simpa using this
      have hx32' : ¬ x = 32 := by simpa using hx32
      have hb32 : (tx[i] == 32) = false := by simpa using h32
      have hsn := HSN.out
      simp only [hb32, Bool.false_eq_true, if_false] at hsn
      have HSN := Lib.hid hsn; clear hsn hb32 h32
      go_wp2_with fail
      go_roundg (n - (i + 1))
      case measure => have := HGK.out; omega
      case rel => exact ⟨i + 1, _, rfl, by go_num, rfl, hlt, by simp only [ByteArray.size_append, HX1.out]; omega, Lib.hid (by rw [HSN.out]; simp [HTL.out, HEX2.out]), HB⟩
    ·have hin' : i = n := by omega
     have htl := HTL.out
     rw [List.take_of_length_le (by rw [<- HTX.out, <- size_list]; omega)] at htl
     have hbl := HBL.out
     rw [<- htl] at hbl
     have hBW : Below w.heap.size w wr := HB5.out.trans (HB.out.mono HB5.out.size)
     have HTF := Lib.hid htl; have HBF := Lib.hid hbl; have HBW := Lib.hid hBW; have HBX := HB; have HGI := Lib.hid hin'
     clear htl hbl hBW HB HTL HBL hin' hsz HGK
     by_cases hbig : 3990 < t.size
     ·have hbig' : (3990 : Int) < (t.size : Int) := by omega
      go_wp2_with fail
      go_ret
      exact ⟨rfl, HBW.out⟩
     ·have hbig' : ¬ (3990 : Int) < (t.size : Int) := by omega
      have hpv := HBF.out (by rw [<- size_list]; omega)
      have hpa := parse_any wr (t ++ ⟨#[35]⟩) (HE.out.below HBW.out)
      have hpt : (t ++ (⟨#[35]⟩ : ByteArray)).data.toList = t.data.toList ++ [35] := by simp
      have g3 : ¬ 9223372036854775807 < t.size + 1 := by omega
      have HPA := Lib.hid hpa; have HPV := Lib.hid hpv; have HPT := Lib.hid hpt
      clear hpa hpv hpt HBF
      go_wp2_with fail
      refine HPA.out.mono ?_
      rintro e W14 ⟨zd, zr, P, rfl, hP, hzd, hzr, hb14⟩
      rw [HPT.out, HPV.out] at hP
      subst hP
      dsimp only at hzd hzr ⊢
      have hda := hzd.at_; have hra := hzr.at_
      obtain ⟨zA, zc, rfl, -, -, -⟩ := hzd.form
      obtain ⟨vA, vc, rfl, -, -, -⟩ := hzr.form
      rw [HLD.out] at hda ⊢
      rw [HLR.out] at hra ⊢
      have hB14 : Below W5.heap.size W5 W14 := HBX.out.trans (hb14.mono HBX.out.size)
      obtain ⟨W15, hW15⟩ : ∃ x, W14.alloc (.cells #[.slice zA nd zc, .slice vA nr vc] 28) = x := ⟨_, rfl⟩
      have hb15 : Below W14.heap.size W14 W15 := by rw [<- hW15]; exact (Below.refl _ _).alloc (Nat.le_refl _) _
      have hB15 : Below W5.heap.size W5 W15 := hB14.trans (hb15.mono hB14.size)
      have kf := Blk.below KF5.out hB15 KF5.out.lt
      have hsf := same_file DF RL (by rw [HND.out]; omega) (by rw [HNR.out]; omega) W15 _ _ _ _ _ _ (HDA5.out.grow hB15) (HRA5.out.grow hB15) (hda.grow hb15) (hra.grow hb15)
      have HSF := Lib.hid hsf; have HB15 := Lib.hid (HB5.out.trans (hB15.mono HB5.out.size)); have HW15 := Lib.hid hW15
      have f0 := Blk.cell kf 0; have f1 := Blk.cell kf 1
      simp only [List.getElem?_toArray, List.getElem?_cons_zero, List.getElem?_cons_succ] at f0 f1
      clear hsf kf hB15 hb15 hB14 hda hra hzd hzr hb14 HPA HBX HBW
      rw [<- hW15] at f0 f1
      clear hW15
      go_wp2_with fail
      rw [HW15.out]
      refine HSF.out.mono ?_
      rintro e W16 ⟨rfl, hb16⟩
      have HB16 := Lib.hid (HB15.out.trans (hb16.mono HB15.out.size))
      clear f0 f1 hb16
      go_wp2_with fail
      go_ret
      exact ⟨rfl, HB16.out⟩
  ·have hf : fewB l = false := by unfold fewB; simpa using hfew
   rw [hf] at hfw
   have HFW := Lib.hid hfw
   clear hfw hf hfew
   go_wp2_with fail
   refine HFW.out.mono ?_
   rintro e W ⟨rfl, rfl⟩
   go_wp2_with fail
   go_ret
   exact ⟨rfl, HB1.out⟩
end Go.Proofs.YtalgnnidhnhciaaGreatDoor
