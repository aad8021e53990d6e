/- Patterns, sets and files as they are written, byte by byte; the signs of what was so written. Contracts of syn's writing of patterns. -/
import Derived.Test.YtalgnnidhnhciaaGreatDoorUSynWa
import Derived.Lib.ItoaNum
import Derived.StillTailTactics
set_option linter.unusedVariables false
set_option linter.unusedSimpArgs false
set_option maxRecDepth 100000
set_option maxHeartbeats 4000000
namespace Go.Proofs.YtalgnnidhnhciaaGreatDoor
open Go
theorem skip_len (b : Bool) (u : Bs) : (skipB b u).length <= u.length := by
 induction u generalizing b with
 | nil => simp [skipB]
 | cons c r ih =>
   simp only [skipB]
   split
   ·exact Nat.le_trans (ih _) (by simp)
   ·split
    ·exact Nat.le_trans (ih _) (by simp)
    ·split
     ·simp
     ·exact Nat.le_trans (ih _) (by simp)
theorem takeWhile_pos (q : UInt8 -> Bool) (c : UInt8) (r : Bs) (h : q c = true) : 0 < ((c :: r).takeWhile q).length := by simp [List.takeWhile_cons, h]
theorem small_wd {c : UInt8} (h : smallB c = true) : wdB c = true := by simp [wdB, h]
theorem size_pos (u : Bs) (h1 : (lexS u).kind ≠ 256) (h2 : (lexS u).kind ≠ 257) : u ≠ [] /\ 0 < (lexS u).size := by
 cases u with
 | nil => simp [lexS] at h1
 | cons c r =>
   refine ⟨by simp, ?_⟩
   simp only [lexS] at h1 h2 ⊢
   split
   ·next h => exact takeWhile_pos _ _ _ (small_wd h)
   ·split
    ·next h => exact takeWhile_pos _ _ _ h
    ·split
     ·unfold quotS
      split
      ·split <;> simp [Sg.none]
      ·simp [Sg.none]
     ·split
      ·unfold codeS
       split
       ·split
        ·simp; omega
        ·simp [Sg.none]
       ·simp [Sg.none]
      ·split <;> simp [Sg.none]
theorem lexP_fuel : ∀ (f g : Nat) (u : Bs), u.length < f -> u.length < g -> lexP f u = lexP g u := by
 intro f
 induction f with
 | zero => intro g u h; omega
 | succ f ih =>
   intro g u h1 h2
   obtain ⟨g', rfl⟩ : ∃ g', g = g' + 1 := ⟨g - 1, by omega⟩
   simp only [lexP]
   by_cases a : (lexS (skipB false u)).kind = 256
   ·simp [a]
   by_cases b : (lexS (skipB false u)).kind = 257
   ·simp [b]
   by_cases c : (lexS (skipB false u)).large = true
   ·simp [c]
   have hp := size_pos _ a b
   have hl := skip_len false u
   have hpos : 0 < (skipB false u).length := List.length_pos_iff.2 hp.1
   have hd : ((skipB false u).drop (lexS (skipB false u)).size).length < u.length := by rw [List.length_drop]; omega
   simp only [beq_iff_eq, a, b, c, if_false, Bool.false_eq_true]
   rw [ih g' _ (by omega) (by omega)]
def toksT (u : Bs) : Toks := (lexT u).map Prod.fst
theorem lexT_skip {u v : Bs} (h : skipB false u = skipB false v) : lexT u = lexT v := by
 have e : ∀ (f : Nat), lexP (f + 1) u = lexP (f + 1) v := fun f => by simp only [lexP, h]
 unfold lexT
 rw [lexP_fuel (u.length + 1) (u.length + v.length + 1) u (by omega) (by omega), lexP_fuel (v.length + 1) (u.length + v.length + 1) v (by omega) (by omega), e]
theorem lexT_step (u : Bs) (a : (lexS (skipB false u)).kind ≠ 256) (b : (lexS (skipB false u)).kind ≠ 257) (c : (lexS (skipB false u)).large = false) :
  lexT u = (⟨(lexS (skipB false u)).kind, (lexS (skipB false u)).word, (lexS (skipB false u)).n⟩, (skipB false u).length) :: lexT ((skipB false u).drop (lexS (skipB false u)).size) := by
  have hp := size_pos _ a b
  have hl := skip_len false u
  have hpos : 0 < (skipB false u).length := List.length_pos_iff.2 hp.1
  have hd : ((skipB false u).drop (lexS (skipB false u)).size).length < u.length := by rw [List.length_drop]; omega
  unfold lexT
  rw [lexP_fuel (((skipB false u).drop (lexS (skipB false u)).size).length + 1) u.length _ (by omega) hd]
  simp [lexP, a, b, c]
theorem toksT_skip {u v : Bs} (h : skipB false u = skipB false v) : toksT u = toksT v := by unfold toksT; rw [lexT_skip h]
theorem toksT_step (u : Bs) (a : (lexS (skipB false u)).kind ≠ 256) (b : (lexS (skipB false u)).kind ≠ 257) (c : (lexS (skipB false u)).large = false) :
  toksT u = ⟨(lexS (skipB false u)).kind, (lexS (skipB false u)).word, (lexS (skipB false u)).n⟩ :: toksT ((skipB false u).drop (lexS (skipB false u)).size) := by
  unfold toksT; rw [lexT_step u a b c]; rfl
@[simp] theorem toksT_blank (u : Bs) : toksT (32 :: u) = toksT u := toksT_skip (by simp [skipB])
@[simp] theorem toksT_line (u : Bs) : toksT (10 :: u) = toksT u := toksT_skip (by simp [skipB])
theorem toksT_nil : toksT [] = [mkT 256] := by rfl
def dlB (c : UInt8) : Bool := !wdB c && !hexB c
def sep (u : Bs) : Prop := ∀ c, u.head? = some c -> dlB c = true
theorem sep_cons {c : UInt8} {r : Bs} (h : dlB c = true) : sep (c :: r) := fun x hx => by simp at hx; rw [<- hx]; exact h
theorem takeWhile_all (q : UInt8 -> Bool) (w u : Bs) (hw : ∀ c ∈ w, q c = true) (hu : ∀ c, u.head? = some c -> q c = false) : (w ++ u).takeWhile q = w := by
 induction w with
 | nil =>
   cases u with
   | nil => rfl
   | cons c r => simp [List.takeWhile_cons, hu c rfl]
 | cons c r ih => simp [List.takeWhile_cons, hw c (by simp), ih (fun x hx => hw x (by simp [hx]))]
theorem sep_wd {u : Bs} (h : sep u) : ∀ c, u.head? = some c -> wdB c = false := fun c hc => by have := h c hc; simp [dlB] at this; exact this.1
theorem sep_dig {u : Bs} (h : sep u) : ∀ c, u.head? = some c -> digB c = false := fun c hc => by have := sep_wd h c hc; simp [wdB] at this; exact this.2
theorem sep_hex {u : Bs} (h : sep u) : ∀ c, u.head? = some c -> hexB c = false := fun c hc => by have := h c hc; simp [dlB] at this; exact this.2
theorem toksT_mark (c : UInt8) (u : Bs) (h0 : c ≠ 10) (h1 : c ≠ 35) (h2 : c ≠ 32) (hm : markB c = true) (hk : smallB c = false) (hd : digB c = false) (h39 : c ≠ 39) (h85 : c ≠ 85) :
  toksT (c :: u) = mkT c.toNat :: toksT u := by
  have hs : skipB false (c :: u) = c :: u := by simp [skipB, h0, h1, h2]
  have hl : lexS (c :: u) = ⟨c.toNat, [], 0, false, 1⟩ := by simp [lexS, hk, hd, h39, h85, hm]
  have hb : c.toNat < 256 := c.toNat_lt
  rw [toksT_step (c :: u) (by rw [hs, hl]; simp; omega) (by rw [hs, hl]; simp; omega) (by rw [hs, hl])]
  rw [hs, hl]; rfl
def wordOk (w : Bs) : Prop := (∃ c r, w = c :: r /\ smallB c = true) /\ (∀ c ∈ w, wdB c = true) /\ w.length <= 12
theorem small_ne {c : UInt8} (h : smallB c = true) : c ≠ 10 /\ c ≠ 35 /\ c ≠ 32 := by
 refine ⟨?_, ?_, ?_⟩ <;> · rintro rfl; simp [smallB] at h
theorem toksT_word (w u : Bs) (hw : wordOk w) (hu : sep u) : toksT (w ++ u) = ⟨wordK w, w, 0⟩ :: toksT u := by
 obtain ⟨⟨c, r, rfl, hc⟩, ha, hl⟩ := hw
 obtain ⟨e1, e2, e3⟩ := small_ne hc
 have hs : skipB false (c :: r ++ u) = c :: r ++ u := by simp [skipB, e1, e2, e3]
 have ht : (c :: r ++ u).takeWhile wdB = c :: r := takeWhile_all _ _ _ ha (sep_wd hu)
 have hx : lexS (c :: r ++ u) = ⟨wordK (c :: r), c :: r, 0, false, (c :: r).length⟩ := by
  have : lexS (c :: r ++ u) = wordS (c :: r ++ u) := by simp [lexS, hc]
  rw [this, wordS, ht, blt_no hl]
 have hk : 258 <= wordK (c :: r) := by unfold wordK; repeat (first | split | omega)
 rw [toksT_step _ (by rw [hs, hx]; simp; omega) (by rw [hs, hx]; simp; omega) (by rw [hs, hx])]
 rw [hs, hx]
 simp
theorem dec_small' {u : Nat} (h : u < 10) : Lib.decDigits u = [UInt8.ofNat (48 + u)] := by rw [Lib.decDigits, dif_pos h]
theorem dec_big' {u : Nat} (h : ¬ u < 10) : Lib.decDigits u = Lib.decDigits (u / 10) ++ [UInt8.ofNat (48 + u % 10)] := by rw [Lib.decDigits, dif_neg h]
theorem ofNat_toNat {n : Nat} (h : n < 256) : (UInt8.ofNat n).toNat = n := by simp; omega
theorem dec_facts (u : Nat) : (∀ c ∈ Lib.decDigits u, digB c = true) /\ Lib.decDigits u ≠ [] /\ numOf (Lib.decDigits u) = u := by
 induction u using Nat.strongRecOn with
 | _ u ih =>
   by_cases h : u < 10
   ·rw [dec_small' h]
    have e := ofNat_toNat (n := 48 + u) (by omega)
    refine ⟨fun c hc => ?_, by simp, ?_⟩
    ·simp only [List.mem_singleton] at hc; subst hc
     simp only [digB, e, Bool.and_eq_true]; exact ⟨Nat.ble_eq_true_of_le (by omega), Nat.ble_eq_true_of_le (by omega)⟩
    ·simp only [numOf, List.foldl_cons, List.foldl_nil, e]; omega
   ·rw [dec_big' h]
    obtain ⟨i1, i2, i3⟩ := ih (u / 10) (by omega)
    have e := ofNat_toNat (n := 48 + u % 10) (by omega)
    refine ⟨fun c hc => ?_, by simp, ?_⟩
    ·rcases List.mem_append.1 hc with hc | hc
     ·exact i1 c hc
     ·simp only [List.mem_singleton] at hc; subst hc
      simp only [digB, e, Bool.and_eq_true]; exact ⟨Nat.ble_eq_true_of_le (by omega), Nat.ble_eq_true_of_le (by omega)⟩
    ·simp only [numOf, List.foldl_append, List.foldl_cons, List.foldl_nil, e] at i3 ⊢
     rw [i3]; omega
theorem dig_ne {c : UInt8} (h : digB c = true) : smallB c = false /\ c ≠ 10 /\ c ≠ 35 /\ c ≠ 32 := by
 refine ⟨?_, ?_, ?_, ?_⟩
 ·simp only [digB, Bool.and_eq_true] at h
  have := Nat.le_of_ble_eq_true h.2
  simp only [smallB, Bool.and_eq_false_iff]; left
  rw [Bool.eq_false_iff]; intro h2; have := Nat.le_of_ble_eq_true h2; omega
 all_goals · rintro rfl; simp [digB] at h
theorem toksT_num (n : Nat) (u : Bs) (hn : n <= 1000000) (hu : sep u) : toksT (Lib.decDigits n ++ u) = num n :: toksT u := by
 obtain ⟨a, b, e⟩ := dec_facts n
 generalize Lib.decDigits n = w at *
 obtain ⟨c, r, rfl⟩ := List.exists_cons_of_ne_nil b
 obtain ⟨e0, e1, e2, e3⟩ := dig_ne (a c (by simp))
 have hc := a c (by simp)
 have hs : skipB false (c :: r ++ u) = c :: r ++ u := by simp [skipB, e1, e2, e3]
 have ht : (c :: r ++ u).takeWhile digB = c :: r := takeWhile_all _ _ _ a (sep_dig hu)
 have hx : lexS (c :: r ++ u) = ⟨259, [], n, false, (c :: r).length⟩ := by
  have : lexS (c :: r ++ u) = digS (c :: r ++ u) := by simp [lexS, e0, hc]
  rw [this, digS, ht, e, blt_no hn]
 rw [toksT_step _ (by rw [hs, hx]; simp) (by rw [hs, hx]; simp) (by rw [hs, hx])]
 rw [hs, hx]
 simp [num]
def hexC (n : Nat) : UInt8 := if n < 10 then UInt8.ofNat (48 + n) else UInt8.ofNat (55 + n)
def hexDigits (u : Nat) : Bs := if h : u < 16 then [hexC u] else hexDigits (u / 16) ++ [hexC (u % 16)]
theorem hex_small {u : Nat} (h : u < 16) : hexDigits u = [hexC u] := by rw [hexDigits, dif_pos h]
theorem hex_big {u : Nat} (h : ¬ u < 16) : hexDigits u = hexDigits (u / 16) ++ [hexC (u % 16)] := by rw [hexDigits, dif_neg h]
theorem hexC_facts (n : Nat) (h : n < 16) : hexB (hexC n) = true /\ hexV (hexC n) = n := by
 revert n; decide
theorem hex_facts (k u : Nat) (hk : u < 16 ^ (k + 1)) : (∀ c ∈ hexDigits u, hexB c = true) /\ hexDigits u ≠ [] /\ hexOf (hexDigits u) = u /\ (hexDigits u).length <= k + 1 := by
 induction k generalizing u with
 | zero =>
   rw [hex_small (by omega)]
   obtain ⟨f1, f2⟩ := hexC_facts u (by omega)
   exact ⟨fun c hc => by simp at hc; rw [hc]; exact f1, by simp, by simp [hexOf, f2], by simp⟩
 | succ k ih =>
   by_cases h : u < 16
   ·rw [hex_small h]
    obtain ⟨f1, f2⟩ := hexC_facts u h
    exact ⟨fun c hc => by simp at hc; rw [hc]; exact f1, by simp, by simp [hexOf, f2], by simp⟩
   ·rw [hex_big h]
    obtain ⟨i1, i2, i3, i4⟩ := ih (u / 16) (by rw [Nat.pow_succ] at hk; omega)
    obtain ⟨f1, f2⟩ := hexC_facts (u % 16) (by omega)
    refine ⟨fun c hc => ?_, by simp, ?_, by simp; omega⟩
    ·rcases List.mem_append.1 hc with hc | hc
     ·exact i1 c hc
     ·simp only [List.mem_singleton] at hc; rw [hc]; exact f1
    ·simp only [hexOf, List.foldl_append, List.foldl_cons, List.foldl_nil, f2] at i3 ⊢
     rw [i3]; omega
theorem toksT_code (n : Nat) (u : Bs) (hn : n <= 1114111) (hu : sep u) : toksT (85 :: 43 :: (hexDigits n ++ u)) = scl n :: toksT u := by
 obtain ⟨a, b, e, l⟩ := hex_facts 5 n (by omega)
 generalize hexDigits n = w at *
 have ht : ((w ++ u).take 6).takeWhile hexB = w := by
  rw [List.take_append]
  have e1 : w.take 6 = w := List.take_of_length_le l
  rw [e1]
  refine takeWhile_all _ _ _ a fun c hc => ?_
  cases u with
  | nil => simp at hc
  | cons x r =>
    rcases Nat.eq_zero_or_pos (6 - w.length) with h0 | h0
    ·rw [h0] at hc; simp at hc
    ·obtain ⟨m, hm⟩ : ∃ m, 6 - w.length = m + 1 := ⟨6 - w.length - 1, by omega⟩
     rw [hm] at hc; simp at hc
     exact sep_hex hu c (by rw [<- hc]; rfl)
 have hs : skipB false (85 :: 43 :: (w ++ u)) = 85 :: 43 :: (w ++ u) := by simp [skipB]
 have hx : lexS (85 :: 43 :: (w ++ u)) = ⟨260, [], n, false, 2 + w.length⟩ := by
  have : lexS (85 :: 43 :: (w ++ u)) = codeS (85 :: 43 :: (w ++ u)) := by simp [lexS, smallB, digB]
  rw [this]
  unfold codeS
  simp only [ht, e, blt_no hn]
  simp [b]
 rw [toksT_step _ (by rw [hs, hx]; simp) (by rw [hs, hx]; simp) (by rw [hs, hx])]
 rw [hs, hx]
 have hd : (85 :: 43 :: (w ++ u)).drop (2 + w.length) = u := by
  rw [Nat.add_comm, List.drop_succ_cons, List.drop_succ_cons, List.drop_left]
 simp only [hd, scl]
def within_ (at_ : Bool) (l : Bs) : Bs := if at_ then l else 40 :: (l ++ [41])
def Pat.text : Pat -> Bs
 | .none_ => [40, 41]
 | .set s => s
 | .any_ => wAny
 | .cat a b => within_ a.atom a.text ++ 32 :: within_ b.atom b.text
 | .alt a b => within_ a.atom a.text ++ 32 :: 124 :: 32 :: within_ b.atom b.text
 | .star a => within_ a.atom a.text ++ [42]
 | .times a lo hi => within_ a.atom a.text ++ 123 :: (Lib.decDigits lo ++ 44 :: (Lib.decDigits hi ++ [125]))
 | .weight a w => within_ a.atom a.text ++ 32 :: 64 :: 32 :: Lib.decDigits w
def Cls.text : Cls -> Bs
 | .range lo hi => 85 :: 43 :: (hexDigits lo ++ if lo = hi then [] else 46 :: 46 :: 85 :: 43 :: hexDigits hi)
 | .name s => s
 | .any_ => wAny
 | .not_ c => 33 :: within_ c.atom c.text
 | .or_ a b => within_ a.atom a.text ++ 32 :: 124 :: 32 :: within_ b.atom b.text
 | .and_ a b => within_ a.atom a.text ++ 32 :: 38 :: 32 :: within_ b.atom b.text
 | .less a b => within_ a.atom a.text ++ 32 :: 45 :: 32 :: within_ b.atom b.text
structure DefP where
 name : Bs
 c : Cls
structure RuleP where
 cat : Nat
 cost : Nat
 left : Pat
 right : Pat
def catW (c : Nat) : Bs := if c = 0 then wLine else if c = 1 then wHyphen else wEmergency
def DefP.text (d : DefP) : Bs := wClass ++ 32 :: (d.name ++ 32 :: 61 :: 32 :: (d.c.text ++ [59, 10]))
def RuleP.text (r : RuleP) : Bs := catW r.cat ++ 32 :: (Lib.decDigits r.cost ++ 32 :: 58 :: 32 :: (r.left.text ++ 32 :: 47 :: 32 :: (r.right.text ++ [59, 10])))
def defsText : List DefP -> Bs
 | [] => []
 | d :: r => d.text ++ defsText r
def rulesText : List RuleP -> Bs
 | [] => []
 | d :: r => d.text ++ rulesText r
def nameOk (w : Bs) : Prop := wordOk w /\ wordK w = 258
theorem m_ {c : UInt8} (u : Bs) (h : (markB c && (c != 10 && (c != 35 && (c != 32 && (!smallB c && (!digB c && (c != 39 && c != 85))))))) = true) : toksT (c :: u) = mkT c.toNat :: toksT u := by
 simp only [Bool.and_eq_true, bne_iff_ne, ne_eq, Bool.not_eq_true'] at h
 obtain ⟨a, b1, b2, b3, b4, b5, b6, b7⟩ := h
 exact toksT_mark c u b1 b2 b3 a b4 b5 b6 b7
section
variable {D : List Bs} (hD : ∀ s ∈ D, nameOk s)
theorem within_toks (at_ : Bool) (l : Bs) (t : Toks) (u : Bs) (hu : sep u) (h : ∀ u, sep u -> toksT (l ++ u) = t ++ toksT u) : toksT (within_ at_ l ++ u) = wrap at_ t ++ toksT u := by
 cases at_
 ·have e : within_ false l ++ u = 40 :: (l ++ 41 :: u) := by simp [within_]
  rw [e, m_ _ (by decide), h _ (sep_cons (by decide)), m_ _ (by decide)]
  simp [wrap, mkT]
 ·exact h u hu
include hD
theorem pat_toks {wg : Bool} (p : Pat) (hok : p.Ok D wg) : ∀ u, sep u -> toksT (p.text ++ u) = p.toks ++ toksT u := by
 induction p with
 | none_ =>
   intro u hu
   show toksT (40 :: 41 :: u) = _
   rw [m_ _ (by decide), m_ _ (by decide)]; rfl
 | set s =>
   intro u hu
   obtain ⟨h1, h2⟩ := hD s hok
   show toksT (s ++ u) = _
   rw [toksT_word s u h1 hu, h2]; rfl
 | any_ =>
   intro u hu
   show toksT (wAny ++ u) = _
   rw [toksT_word wAny u ⟨⟨97, _, rfl, by decide⟩, by decide, by decide⟩ hu]; rfl
 | cat a b iha ihb =>
   intro u hu
   have e : (Pat.cat a b).text ++ u = within_ a.atom a.text ++ 32 :: (within_ b.atom b.text ++ u) := by simp [Pat.text]
   rw [e, within_toks _ _ _ _ (sep_cons (by decide)) (iha hok.1), toksT_blank, within_toks _ _ _ _ hu (ihb hok.2)]
   simp [Pat.toks]
 | alt a b iha ihb =>
   intro u hu
   have e : (Pat.alt a b).text ++ u = within_ a.atom a.text ++ 32 :: 124 :: 32 :: (within_ b.atom b.text ++ u) := by simp [Pat.text]
   rw [e, within_toks _ _ _ _ (sep_cons (by decide)) (iha hok.1), toksT_blank, m_ _ (by decide), toksT_blank, within_toks _ _ _ _ hu (ihb hok.2)]
   simp [Pat.toks, mkT]
 | star a iha =>
   intro u hu
   have e : (Pat.star a).text ++ u = within_ a.atom a.text ++ 42 :: u := by simp [Pat.text]
   rw [e, within_toks _ _ _ _ (sep_cons (by decide)) (iha hok), m_ _ (by decide)]
   simp [Pat.toks, mkT]
 | times a lo hi iha =>
   intro u hu
   obtain ⟨o1, o2, o3⟩ := hok
   have e : (Pat.times a lo hi).text ++ u = within_ a.atom a.text ++ 123 :: (Lib.decDigits lo ++ 44 :: (Lib.decDigits hi ++ 125 :: u)) := by simp [Pat.text]
   rw [e, within_toks _ _ _ _ (sep_cons (by decide)) (iha o1), m_ _ (by decide), toksT_num lo _ (by omega) (sep_cons (by decide)), m_ _ (by decide), toksT_num hi _ (by omega) (sep_cons (by decide)), m_ _ (by decide)]
   simp [Pat.toks, mkT]
 | weight a w iha =>
   intro u hu
   obtain ⟨o1, o2, o3⟩ := hok
   have e : (Pat.weight a w).text ++ u = within_ a.atom a.text ++ 32 :: 64 :: 32 :: (Lib.decDigits w ++ u) := by simp [Pat.text]
   rw [e, within_toks _ _ _ _ (sep_cons (by decide)) (iha o1), toksT_blank, m_ _ (by decide), toksT_blank, toksT_num w _ o3 hu]
   simp [Pat.toks, mkT]
theorem cls_toks (p : Cls) (hok : p.Ok D) : ∀ u, sep u -> toksT (p.text ++ u) = p.toks ++ toksT u := by
 induction p with
 | range lo hi =>
   intro u hu
   obtain ⟨o1, o2⟩ := hok
   by_cases h : lo = hi
   ·subst h
    have e : (Cls.range lo lo).text ++ u = 85 :: 43 :: (hexDigits lo ++ u) := by simp [Cls.text]
    rw [e, toksT_code lo u o2 hu]
    simp [Cls.toks]
   ·have e : (Cls.range lo hi).text ++ u = 85 :: 43 :: (hexDigits lo ++ 46 :: 46 :: 85 :: 43 :: (hexDigits hi ++ u)) := by simp [Cls.text, h]
    rw [e, toksT_code lo _ (by omega) (sep_cons (by decide)), m_ _ (by decide), m_ _ (by decide), toksT_code hi u o2 hu]
    simp [Cls.toks, h, mkT]
 | name s =>
   intro u hu
   obtain ⟨h1, h2⟩ := hD s hok
   show toksT (s ++ u) = _
   rw [toksT_word s u h1 hu, h2]; rfl
 | any_ =>
   intro u hu
   show toksT (wAny ++ u) = _
   rw [toksT_word wAny u ⟨⟨97, _, rfl, by decide⟩, by decide, by decide⟩ hu]; rfl
 | not_ a iha =>
   intro u hu
   have e : (Cls.not_ a).text ++ u = 33 :: (within_ a.atom a.text ++ u) := by simp [Cls.text]
   rw [e, m_ _ (by decide), within_toks _ _ _ _ hu (iha hok)]
   simp [Cls.toks, mkT]
 | or_ a b iha ihb =>
   intro u hu
   have e : (Cls.or_ a b).text ++ u = within_ a.atom a.text ++ 32 :: 124 :: 32 :: (within_ b.atom b.text ++ u) := by simp [Cls.text]
   rw [e, within_toks _ _ _ _ (sep_cons (by decide)) (iha hok.1), toksT_blank, m_ _ (by decide), toksT_blank, within_toks _ _ _ _ hu (ihb hok.2)]
   simp [Cls.toks, mkT]
 | and_ a b iha ihb =>
   intro u hu
   have e : (Cls.and_ a b).text ++ u = within_ a.atom a.text ++ 32 :: 38 :: 32 :: (within_ b.atom b.text ++ u) := by simp [Cls.text]
   rw [e, within_toks _ _ _ _ (sep_cons (by decide)) (iha hok.1), toksT_blank, m_ _ (by decide), toksT_blank, within_toks _ _ _ _ hu (ihb hok.2)]
   simp [Cls.toks, mkT]
 | less a b iha ihb =>
   intro u hu
   have e : (Cls.less a b).text ++ u = within_ a.atom a.text ++ 32 :: 45 :: 32 :: (within_ b.atom b.text ++ u) := by simp [Cls.text]
   rw [e, within_toks _ _ _ _ (sep_cons (by decide)) (iha hok.1), toksT_blank, m_ _ (by decide), toksT_blank, within_toks _ _ _ _ hu (ihb hok.2)]
   simp [Cls.toks, mkT]
end
end Go.Proofs.YtalgnnidhnhciaaGreatDoor
namespace Go.Proofs.YtalgnnidhnhciaaGreatDoor
open Go Go.RowKit Go.Proofs
theorem BldW.below {B b : Nat} {l : Bs} {w w' : World} (h : BldW B b l w) (hb : Below w.heap.size w w') : BldW B b l w' := by
 have one : ∀ p, Lib.BuilderAtF 84 5 B b p (Lib.byteCells l) w -> Lib.BuilderAtF 84 5 B b p (Lib.byteCells l) w' := by
  intro p q
  have hlt := q.lt
  obtain ⟨hB, v, h1, h2, h3⟩ := q
  exact ⟨hB, v, by rw [hb.block b hlt]; exact h1, h2.kept (only_of_below hb none) (by cases v.ownBlock <;> simp), h3⟩
 exact ⟨h.bld.elim (fun q => .inl (one _ q)) (fun q => .inr (one _ q)), h.tab.below hb h.tab.lt, h.low⟩
theorem BldW.lt {B b : Nat} {l : Bs} {w : World} (h : BldW B b l w) : B <= b /\ b < w.heap.size := h.bld.elim (fun q => ⟨q.1, q.lt⟩) (fun q => ⟨q.1, q.lt⟩)
theorem BldW.alloc {B b : Nat} {l : Bs} {w : World} (h : BldW B b l w) (o : Obj) : BldW B b l (w.alloc o) := h.below ((Below.refl _ _).alloc (Nat.le_refl _) o)
theorem BldW.drew {B b : Nat} {l : Bs} {w : World} (h : BldW B b l w) : BldW B b l w.drew := ⟨h.bld, h.tab, h.low⟩
theorem all_new (B b : Nat) (l : Bs) (ss : List ByteArray) (cs : Array Value) (hcs : cs = (ss.map Value.string).toArray) (n : Nat) (hn : ss.length = n) (w : World) (h : BldW B b l w) (hlen : l.length + (catS ss).length <= 1000000000) (hn9 : n <= 1000) (t : Bs) (ht : catS ss = t) (H : Nat) (hH : w.heap.size = H) :
  Calls Tryz.prog 68 #[.pointer (some ⟨b, 0, none⟩), .slice (some ⟨H, 0, none⟩) n n] (w.alloc (.cells cs 9)) (WEnd B b (l ++ t) w) := by
  subst hcs; subst ht; subst hH
  have hlt := h.lt
  refine (all_w B b w.heap.size l ss n hn (w.alloc (.cells (ss.map Value.string).toArray 9)) (h.alloc _) (Blk.new _ _ _) (by omega) hlen hn9 (by simp; omega)).mono ?_
  rintro e w' ⟨rfl, h1, h2⟩
  exact ⟨rfl, h1, ((WFr.refl B b w).alloc (by omega) _).trans h2⟩
theorem one_new {B b : Nat} {l : Bs} {w : World} (s : ByteArray) (h : BldW B b l w) (t : Bs) (ht : s.data.toList = t) (hlen : l.length + t.length <= 1000000000) (H : Nat) (hH : w.heap.size = H) :
  Calls Tryz.prog 68 #[.pointer (some ⟨b, 0, none⟩), .slice (some ⟨H, 0, none⟩) 1 1] (w.alloc (.cells #[.string s] 9)) (WEnd B b (l ++ t) w) := by
  have e : catS [s] = t := by simp [catS, ht]
  exact all_new B b l [s] _ rfl 1 rfl w h (by rw [e]; exact hlen) (by omega) t e H hH
theorem TreeV.fr {r : Bool} {B : Nat} {w w' : World} {v : Value} {t : Tree} (h : TreeV r w (fun g => g < B) v t) (hb : Below B w w') : TreeV r w' (fun g => g < B) v t :=
 h.keep (fun _ h => h) (fun g hg i x hx => by rw [hb.cell (p := ⟨g, i, none⟩) hg]; exact hx)
theorem TreesAt.at_ {r : Bool} {w : World} {S : Nat -> Prop} {b : Nat} : ∀ {l : List Tree} {o : Nat}, TreesAt r w S b o l -> ∀ (i : Nat) (hi : i < l.length), TreeAt r w S b (o + i * sz r) l[i] := by
 intro l
 induction l with
 | nil => intro o _ i hi; simp at hi
 | cons t l ih =>
   intro o h i hi
   rw [TreesAt] at h
   cases i with
   | zero => simpa using h.1
   | succ i =>
     have := ih h.2 i (by simpa using hi)
     rw [show o + (i + 1) * sz r = o + sz r + i * sz r by rw [Nat.add_mul]; omega]
     exact this
theorem TreeAt.value {r : Bool} {w : World} {S : Nat -> Prop} {b o : Nat} {t : Tree} (h : TreeAt r w S b o t) : ∃ (k lo hi wt : Int) (s : ByteArray) (A : Option Addr) (n c : Nat), CellsAt w b o (headC r k lo hi wt s A n c) /\ TreeV r w S (.agg (headC r k lo hi wt s A n c).toArray) t := by
 cases t with
 | mk k lo hi wt nm l =>
   rw [TreeAt] at h
   obtain ⟨s, A, n, c, h1, h2⟩ := h
   exact ⟨k, lo, hi, wt, s, A, n, c, h1, s, A, n, c, rfl, h2⟩
def KidsV (r : Bool) (w : World) (S : Nat -> Prop) (A : Option Addr) (n c : Nat) (l : List Tree) : Prop := l.length = n /\ n <= c /\ c <= maxLen /\ AForm A n /\ ∀ b' o', A = some ⟨b', o', none⟩ -> 0 < n -> S b' /\ TreesAt r w S b' o' l
theorem KidsV.keep {r : Bool} {w w' : World} {S : Nat -> Prop} {A : Option Addr} {n c : Nat} {l : List Tree} (h : KidsV r w S A n c l) (hk : ∀ g, S g -> ∀ i x, w.cell? ⟨g, i, none⟩ = some x -> w'.cell? ⟨g, i, none⟩ = some x) : KidsV r w' S A n c l := by
 obtain ⟨h1, h2, h3, h4, h5⟩ := h
 exact ⟨h1, h2, h3, h4, fun b' o' e hn => ⟨(h5 b' o' e hn).1, TreesAt.keep (fun _ h => h) hk l b' o' (hk b' (h5 b' o' e hn).1) (h5 b' o' e hn).2⟩⟩
theorem KidsV.fr {r : Bool} {B : Nat} {w w' : World} {A : Option Addr} {n c : Nat} {l : List Tree} (h : KidsV r w (fun g => g < B) A n c l) (hb : Below B w w') : KidsV r w' (fun g => g < B) A n c l :=
 h.keep (fun g hg i x hx => by rw [hb.cell (p := ⟨g, i, none⟩) hg]; exact hx)
theorem TreeV.six_ {w : World} {S : Nat -> Prop} {v : Value} {k0 lo0 hi0 wt0 : Int} {nm0 : Bs} {l0 : List Tree} (h : TreeV true w S v (.mk k0 lo0 hi0 wt0 nm0 l0)) :
  ∃ (nm : ByteArray) (A : Option Addr) (n c : Nat), v = .agg #[.int .i64 k0, .int .i64 lo0, .int .i64 hi0, .int .i64 wt0, .string nm, .slice A n c] /\ nm.data.toList = nm0 /\ KidsV true w S A n c l0 := by
  obtain ⟨s, A, n, c, h1, h2, h3, h4, h5, h6, h7, h8⟩ := h
  exact ⟨s, A, n, c, h1, h2, ⟨h4, h5, h6, h7, h8⟩⟩
theorem childR_ok (w : World) (S : Nat -> Prop) (b o n c : Nat) (l : List Tree) (i : Nat) (hi : i < l.length) (h : KidsV true w S (some ⟨b, o, none⟩) n c l) (I : Int) (hI : (i : Int) = I) (hn9 : n <= 1000) :
  Calls Tryz.prog 71 #[.slice (some ⟨b, o, none⟩) n c, .int .i64 I] w fun e w' => ∃ v, e = .returned v /\ TreeV true w' S v l[i] /\ Below w.heap.size w w' := by
  subst hI
  obtain ⟨h1, h2, h3, h4, h5⟩ := h
  obtain ⟨hSb, hts⟩ := h5 b o rfl (by omega)
  obtain ⟨k, lo, hi', wt, nm, A', n', c', hc, ht⟩ := (hts.at_ i hi).value
  have cc : ∀ j v, [Value.int .i64 k, .int .i64 lo, .int .i64 hi', .int .i64 wt, .string nm, .slice A' n' c'][j]? = some v -> w.cell? ⟨b, o + i * 6 + j, none⟩ = some v := fun j v hv => hc j v hv
  have v0 := cc 0 _ rfl; have v1 := cc 1 _ rfl; have v2 := cc 2 _ rfl; have v3 := cc 3 _ rfl; have v4 := cc 4 _ rfl; have v5 := cc 5 _ rfl
  rw [Nat.add_zero] at v0
  have hlt := World.block_lt_of_cell? w _ v0
  have ht' : ∀ w', Below w.heap.size w w' -> TreeV true w' S (.agg #[.int .i64 k, .int .i64 lo, .int .i64 hi', .int .i64 wt, .string nm, .slice A' n' c']) l[i] := fun w' hb => ht.keep (fun _ h => h) (fun g _ j x hx => by rw [hb.cell (p := ⟨g, j, none⟩) (World.block_lt_of_cell? w _ hx)]; exact hx)
  have HT := Lib.hid ht'
  have i0 : (0 : Int) <= (i : Int) := Int.natCast_nonneg _
  have i1 : (i : Int) < (n : Int) := by omega
  unfold maxLen at h3
  clear hc ht ht' cc hts h5 h4
  go_enter Tryz.func71, Tryz.ntmps71
  go_wp2_with fail
  refine bodyPost_ret (v := .agg #[.int .i64 k, .int .i64 lo, .int .i64 hi', .int .i64 wt, .string nm, .slice A' n' c']) (by simp [results, Tryz.results71, go_sem]) rfl ?_
  have hb : Below w.heap.size w (w.alloc (.cells #[.int .i64 k, .int .i64 lo, .int .i64 hi', .int .i64 wt, .string nm, .slice A' n' c'] 46)) := (Below.refl _ _).alloc (Nat.le_refl _) _
  exact ⟨_, rfl, HT.out _ hb, hb⟩
def Pat.Small : Pat -> Prop
 | .none_ => True
 | .set _ => True
 | .any_ => True
 | .cat a b => a.Small /\ b.Small
 | .alt a b => a.Small /\ b.Small
 | .star a => a.Small
 | .times a lo hi => a.Small /\ lo < 100 /\ hi < 100
 | .weight a w => a.Small /\ w < 100
def WSpec (f : Nat) (p : Pat) (t : Bs) : Prop :=
 ∀ (B b : Nat) (l : Bs) (w : World) (v : Value), TreeV true w (fun g => g < B) v p.tree -> BldW B b l w -> l.length + t.length <= 1000000000 -> B <= w.heap.size -> Calls Tryz.prog f #[.pointer (some ⟨b, 0, none⟩), v] w (WEnd B b (l ++ t) w)
def Tree.kind : Tree -> Int
 | .mk k _ _ _ _ _ => k
theorem Pat.kind_atom (p : Pat) : (p.atom = true -> p.tree.kind = 2 \/ p.tree.kind = 3 \/ p.tree.kind = 1) /\ (p.atom = false -> p.tree.kind ≠ 2 /\ p.tree.kind ≠ 3 /\ p.tree.kind ≠ 1) := by
 cases p <;> simp [Pat.atom, Pat.tree, Tree.kind, rNone, rSet, rAny, rTwo, rStar, rTimes, rWeight]
theorem TreeV.kinded {w : World} {S : Nat -> Prop} {v : Value} {t : Tree} (h : TreeV true w S v t) : ∃ (k lo hi wt : Int) (nm : ByteArray) (A : Option Addr) (n c : Nat), v = .agg #[.int .i64 k, .int .i64 lo, .int .i64 hi, .int .i64 wt, .string nm, .slice A n c] /\ k = t.kind := by
 cases t
 obtain ⟨s, A, n, c, e, _⟩ := h
 exact ⟨_, _, _, _, s, A, n, c, e, rfl⟩
theorem rexWithin_ok (p : Pat) (hr : WSpec 38 p p.text) : WSpec 70 p (within_ p.atom p.text) := by
 intro B b l w v hT h hlen hBw
 have hlt := h.lt
 obtain ⟨hk1, hk2⟩ := p.kind_atom
 obtain ⟨k, lo, hi, wt, nm, A, n, c, rfl, hk⟩ := hT.kinded
 rw [<- hk] at hk1 hk2
 clear hk
 have hbox := Blk.new w 46 #[.int .i64 k, .int .i64 lo, .int .i64 hi, .int .i64 wt, .string nm, .slice A n c]
 have hF0 := (WFr.refl B b w).alloc hBw (.cells #[.int .i64 k, .int .i64 lo, .int .i64 hi, .int .i64 wt, .string nm, .slice A n c] 46)
 have hT0 := hT.fr hF0.below
 have h0 := h.alloc (.cells #[.int .i64 k, .int .i64 lo, .int .i64 hi, .int .i64 wt, .string nm, .slice A n c] 46)
 have hz : w.heap.size < (w.alloc (.cells #[.int .i64 k, .int .i64 lo, .int .i64 hi, .int .i64 wt, .string nm, .slice A n c] 46)).heap.size := by simp
 cases hat : p.atom with
 | true =>
   have hk := hk1 hat
   have e : within_ true p.text = p.text := rfl
   rw [hat, e] at hlen
   rw [e]
   have hc := hr B b l _ _ hT0 h0 hlen (by omega)
   have HC := Lib.hid hc; have HF := Lib.hid hF0
   clear hc hF0 hT0 h0 hT h hr hbox hk1 hk2 hat e
   have fin : ∀ w1, WEnd B b (l ++ p.text) (w.alloc (.cells #[.int .i64 k, .int .i64 lo, .int .i64 hi, .int .i64 wt, .string nm, .slice A n c] 46)) (.returned (.tuple #[])) w1 -> WEnd B b (l ++ p.text) w (.returned (.tuple #[])) w1 := fun w1 q => ⟨rfl, q.2.1, HF.out.trans q.2.2⟩
   have FIN := Lib.hid fin; clear fin
   have hd : ∃ q2 q3 q1 : Bool, (k == 2) = q2 /\ (k == 3) = q3 /\ (k == 1) = q1 := ⟨_, _, _, rfl, rfl, rfl⟩
   rcases hk with hk | hk | hk
   all_goals (
    subst hk
    go_enter Tryz.func70, Tryz.ntmps70
    go_wp2_with fail
    refine HC.out.mono ?_
    rintro e w1 ⟨rfl, q1, q2⟩
    have Q := Lib.hid (FIN.out w1 ⟨rfl, q1, q2⟩)
    clear q1 q2
    go_wp2_with fail
    go_end0
    exact Q.out)
 | false =>
   obtain ⟨k2, k3, k1⟩ := hk2 hat
   have e : within_ false p.text = 40 :: (p.text ++ [41]) := rfl
   rw [hat, e] at hlen
   rw [e]
   simp only [List.length_cons, List.length_append, List.length_nil] at hlen
   have q2 : (k == 2) = false := by simpa using k2
   have q3 : (k == 3) = false := by simpa using k3
   have q1 : (k == 1) = false := by simpa using k1
   have hc := one_new (⟨#[40]⟩ : ByteArray) h0 [40] rfl (by simp; omega) (w.heap.size + 1) (by simp)
   have HC := Lib.hid hc; have HF := Lib.hid hF0; have HT := Lib.hid hT0; have HBX := Lib.hid hbox; have HR := Lib.hid hr
   clear hc hF0 hT0 h0 hT h hr hbox hk1 hk2 hat k1 k2 k3 e
   go_enter Tryz.func70, Tryz.ntmps70
   go_wp2_with fail
   refine HC.out.mono ?_
   rintro e w1 ⟨rfl, h1, hF1⟩
   have hbx := hF1.keeps w.heap.size _ _ HBX.out (by omega) (by decide)
   have v0 := Blk.cell hbx 0; have v1 := Blk.cell hbx 1; have v2 := Blk.cell hbx 2; have v3 := Blk.cell hbx 3; have v4 := Blk.cell hbx 4; have v5 := Blk.cell hbx 5
   simp only [List.getElem?_toArray, List.getElem?_cons_zero, List.getElem?_cons_succ] at v0 v1 v2 v3 v4 v5
   have hr1 := HR.out B b (l ++ [40]) w1 _ (HT.out.fr hF1.below) h1 (by simp; omega) (by have := hF1.grows; omega)
   have HR1 := Lib.hid hr1; have HF1 := Lib.hid (HF.out.trans hF1)
   clear hr1 h1 hF1 hbx HC HF
   go_wp2_with fail
   refine HR1.out.mono ?_
   rintro e w2 ⟨rfl, h2, hF2⟩
   have hc := one_new (⟨#[41]⟩ : ByteArray) h2 [41] rfl (by simp; omega) _ rfl
   have HC := Lib.hid hc; have HF2 := Lib.hid (HF1.out.trans hF2)
   clear hc h2 hF2 HR1 HF1 v0 v1 v2 v3 v4 v5
   go_wp2_with fail
   refine HC.out.mono ?_
   rintro e w3 ⟨rfl, h3, hF3⟩
   have H3 := Lib.hid h3; have HF3 := Lib.hid (HF2.out.trans hF3)
   clear h3 hF3
   go_wp2_with fail
   go_end0
   refine ⟨rfl, ?_, HF3.out⟩
   have := H3.out
   simpa using this
theorem twoRexes_ok (p q : Pat) (hp : WSpec 70 p (within_ p.atom p.text)) (hq : WSpec 70 q (within_ q.atom q.text)) (B b : Nat) (l : Bs) (w : World) (A : Option Addr) (n c : Nat) (s : ByteArray) (t : Bs) (hs : s.data.toList = t)
  (hK : KidsV true w (fun g => g < B) A n c [p.tree, q.tree]) (hA : ∃ g o, A = some ⟨g, o, none⟩) (h : BldW B b l w) (hlen : l.length + (within_ p.atom p.text ++ (t ++ within_ q.atom q.text)).length <= 1000000000) (hBw : B <= w.heap.size) :
  Calls Tryz.prog 69 #[.pointer (some ⟨b, 0, none⟩), .slice A n c, .string s] w (WEnd B b (l ++ (within_ p.atom p.text ++ (t ++ within_ q.atom q.text))) w) := by
  have hlt := h.lt
  obtain ⟨g, o, rfl⟩ := hA
  obtain rfl : n = 2 := by have := hK.1; simpa using this.symm
  obtain ⟨P, hP⟩ : ∃ P, within_ p.atom p.text = P := ⟨_, rfl⟩
  obtain ⟨R, hR⟩ : ∃ R, within_ q.atom q.text = R := ⟨_, rfl⟩
  rw [hP, hR] at hlen ⊢
  rw [hP] at hp
  rw [hR] at hq
  simp only [List.length_append] at hlen
  have hc := childR_ok w (fun g => g < B) g o 2 c [p.tree, q.tree] 0 (by simp) hK 0 rfl (by omega)
  have HC := Lib.hid hc; have HK := Lib.hid hK; have HP := Lib.hid hp; have HQ := Lib.hid hq; have H0 := Lib.hid h
  clear hc hK hp hq h hP hR
  go_enter Tryz.func69, Tryz.ntmps69
  go_wp2_with fail
  refine HC.out.mono ?_
  rintro e w1 ⟨v, rfl, hv, hb1⟩
  have hF1 := (WFr.refl B b w).of_below hBw hb1
  have hw := HP.out B b l w1 v hv (H0.out.below hb1) (by omega) (by have := hb1.size; omega)
  have HW := Lib.hid hw; have HF := Lib.hid hF1
  clear hw hF1 hv hb1 HC
  go_wp2_with fail
  refine HW.out.mono ?_
  rintro e w2 ⟨rfl, h2, hF2⟩
  have hc := one_new s h2 t hs (by simp; omega) _ rfl
  have HC := Lib.hid hc; have HF2 := Lib.hid (HF.out.trans hF2)
  clear hc h2 hF2 HW HF
  go_wp2_with fail
  refine HC.out.mono ?_
  rintro e w3 ⟨rfl, h3, hF3⟩
  have hF3' := HF2.out.trans hF3
  have hc := childR_ok w3 (fun g => g < B) g o 2 c [p.tree, q.tree] 1 (by simp) (HK.out.fr hF3'.below) 1 rfl (by omega)
  have HC3 := Lib.hid hc; have H3 := Lib.hid h3; have HF3 := Lib.hid hF3'
  clear hc h3 hF3 hF3' HC HF2
  go_wp2_with fail
  refine HC3.out.mono ?_
  rintro e w4 ⟨v', rfl, hv, hb4⟩
  have hF4 := HF3.out.of_below (by have := HF3.out.grows; omega) hb4
  have hw := HQ.out B b _ w4 v' hv (H3.out.below hb4) (by simp; omega) (by have := hF4.grows; omega)
  have HW := Lib.hid hw; have HF4 := Lib.hid hF4
  clear hw hF4 hv hb4 HC3 HF3
  go_wp2_with fail
  refine HW.out.mono ?_
  rintro e w5 ⟨rfl, h5, hF5⟩
  have H5 := Lib.hid h5; have HF5 := Lib.hid (HF4.out.trans hF5)
  clear h5 hF5
  go_wp2_with fail
  go_end0
  refine ⟨rfl, ?_, HF5.out⟩
  have := H5.out
  simpa using this
end Go.Proofs.YtalgnnidhnhciaaGreatDoor
