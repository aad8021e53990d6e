/- What lies in memory where syn reads: the reader's twelve cells; contract of the way over blanks. Contracts of syn's reading of signs: which bytes are what; how many a text begins with that fit; words, numbers, scalars; the first sign of a text. Contract of the library's strconv.ParseInt at one to six digits of sixteen (capital letters), base 16, 64 bits; of strings.Clone. -/
import Derived.Test.YtalgnnidhnhciaaGreatDoorBlk
import Derived.Test.YtalgnnidhnhciaaGreatDoorUSynP
import Derived.Deep.QuietTactic
import Derived.BigQuiet
import Derived.Deep.LoopGhost
import Derived.LoopTactic
import Derived.Test.YtalgnnidhnhciaaGreatDoorShelf
import Derived.Lib.Strings
import Derived.Lib.Walk
import Derived.Lib.ConvBytes
import Derived.Lib.AtoiAllMem
import Derived.Laws.Strings3
import Derived.Laws.Closers25
import Derived.Laws.Closers25b
import Derived.BigCall
import Derived.BigGuard
set_option linter.unusedVariables false
set_option linter.unusedSimpArgs false
set_option maxRecDepth 100000
set_option maxHeartbeats 8000000
namespace Go.Proofs.YtalgnnidhnhciaaGreatDoor
open Go Go.RowKit
structure PS where
 done : Int
 kind : Int
 at_ : Int
 word : ByteArray
 n : Int
 large : Bool
 place : Int
 e : Int
 defs : Value
 rules : Value
 deep : Int
def PS.cells (s : ByteArray) (p : PS) : Array Value :=
 #[.string s, .int .i64 p.done, .int .i64 p.kind, .int .i64 p.at_, .string p.word, .int .i64 p.n, .bool p.large, .int .i64 p.place, .int .i64 p.e, p.defs, p.rules, .int .i64 p.deep]
def Cel (w : World) (b : Nat) (s : ByteArray) (p : PS) : Prop := Blk w b 97 (p.cells s)
section
variable {w w' : World} {b : Nat} {s : ByteArray} {p : PS}
theorem Cel.c0 (h : Cel w b s p) : w.cell? ⟨b, 0, none⟩ = some (.string s) := Blk.cell h 0
theorem Cel.c1 (h : Cel w b s p) : w.cell? ⟨b, 1, none⟩ = some (.int .i64 p.done) := Blk.cell h 1
theorem Cel.c2 (h : Cel w b s p) : w.cell? ⟨b, 2, none⟩ = some (.int .i64 p.kind) := Blk.cell h 2
theorem Cel.c3 (h : Cel w b s p) : w.cell? ⟨b, 3, none⟩ = some (.int .i64 p.at_) := Blk.cell h 3
theorem Cel.c4 (h : Cel w b s p) : w.cell? ⟨b, 4, none⟩ = some (.string p.word) := Blk.cell h 4
theorem Cel.c5 (h : Cel w b s p) : w.cell? ⟨b, 5, none⟩ = some (.int .i64 p.n) := Blk.cell h 5
theorem Cel.c6 (h : Cel w b s p) : w.cell? ⟨b, 6, none⟩ = some (.bool p.large) := Blk.cell h 6
theorem Cel.c7 (h : Cel w b s p) : w.cell? ⟨b, 7, none⟩ = some (.int .i64 p.place) := Blk.cell h 7
theorem Cel.c8 (h : Cel w b s p) : w.cell? ⟨b, 8, none⟩ = some (.int .i64 p.e) := Blk.cell h 8
theorem Cel.c9 (h : Cel w b s p) : w.cell? ⟨b, 9, none⟩ = some p.defs := Blk.cell h 9
theorem Cel.c10 (h : Cel w b s p) : w.cell? ⟨b, 10, none⟩ = some p.rules := Blk.cell h 10
theorem Cel.c11 (h : Cel w b s p) : w.cell? ⟨b, 11, none⟩ = some (.int .i64 p.deep) := Blk.cell h 11
theorem Cel.fz (h : Cel w b s p) (i : Nat) : w.frozen? ⟨b, i, none⟩ = false := Blk.frozen h i
theorem Cel.lt (h : Cel w b s p) : b < w.heap.size := Blk.lt h
theorem Cel.alloc (h : Cel w b s p) (o : Obj) : Cel (w.alloc o) b s p := Blk.alloc h o
theorem Cel.drewN (h : Cel w b s p) (n : Nat) : Cel (w.drewN n) b s p := h
theorem Cel.below (h : Cel w b s p) (hb : Below w.heap.size w w') : Cel w' b s p := Blk.below h hb h.lt
theorem Cel.far (h : Cel w b s p) {q : Addr} (hq : b ≠ q.block) (u : Value) : Cel (w.setCell q u) b s p := Blk.far h hq u
theorem Cel.set1 (h : Cel w b s p) (d : Int) : Cel (w.setCell ⟨b, 1, none⟩ (.int .i64 d)) b s { p with done := d } := by
 have := Blk.set_ h 1 (.int .i64 d)
 simpa [Cel, PS.cells] using this
theorem Cel.set11 (h : Cel w b s p) (d : Int) : Cel (w.setCell ⟨b, 11, none⟩ (.int .i64 d)) b s { p with deep := d } := by
 have := Blk.set_ h 11 (.int .i64 d)
 simpa [Cel, PS.cells] using this
theorem Cel.set9 (h : Cel w b s p) (v : Value) : Cel (w.setCell ⟨b, 9, none⟩ v) b s { p with defs := v } := by
 have := Blk.set_ h 9 v
 simpa [Cel, PS.cells] using this
theorem Cel.set10 (h : Cel w b s p) (v : Value) : Cel (w.setCell ⟨b, 10, none⟩ v) b s { p with rules := v } := by
 have := Blk.set_ h 10 v
 simpa [Cel, PS.cells] using this
end
theorem skip_at (rem : Bool) (l : List UInt8) (d : Nat) (h : d < l.length) :
  skipB rem (l.drop d) = if l[d] == 10 then skipB false (l.drop (d + 1)) else if l[d] == 35 then skipB true (l.drop (d + 1)) else if l[d] != 32 && !rem then l.drop d else skipB rem (l.drop (d + 1)) := by
  rw [List.drop_eq_getElem_cons h, skipB]
theorem skip_end (rem : Bool) (l : List UInt8) (d : Nat) (h : l.length <= d) : skipB rem (l.drop d) = [] := by
 rw [List.drop_eq_nil_of_le h]; cases rem <;> rfl
theorem u8_eq (a : UInt8) (k : Nat) (hk : k < 256) : (a == UInt8.ofNat k) = decide (a.toNat = k) := by
 rw [Bool.eq_iff_iff]; simp [<- UInt8.toNat_inj]; omega
theorem pass_any (w : World) (b : Nat) (s : ByteArray) (p : PS) (d : Nat) (h : Cel w b s p) (hd : p.done = d) (hs : d <= s.size) (hm : s.size <= 1000000000) :
  Calls Tryz.prog 97 #[.pointer (some ⟨b, 0, none⟩)] w fun e w' =>
   e = .returned (.tuple #[]) /\ ∃ d' : Nat, d <= d' /\ d' <= s.size /\ s.data.toList.drop d' = skipB false (s.data.toList.drop d) /\ Cel w' b s { p with done := d' } /\ w.grownBy w' (some b) := by
  have hl : s.data.toList.length = s.size := rfl
  have H := Lib.hid h; clear h
  obtain ⟨R, hR⟩ : ∃ R, skipB false (s.data.toList.drop d) = R := ⟨_, rfl⟩
  rw [hR]
  have HR := Lib.hid hR; clear hR
  have HD := Lib.hid hd; clear hd
  have HL := Lib.hid hl; clear hl
  go_enter Tryz.func97, Tryz.ntmps97
  go_wp2_with fail
  go_loopg [2] (s.size - d) (fun gk v2 wr => ∃ (k : Nat) (rem : Bool), v2 = .bool rem /\ gk = s.size - k /\ d <= k /\ k <= s.size /\ Hid (skipB rem (s.data.toList.drop k) = R) /\ Hid (Cel wr b s { p with done := k }) /\ w.grownBy wr (some b))
  case atStart =>
   refine ⟨d, false, rfl, rfl, Nat.le_refl _, hs, HR, Lib.hid ?_, only_refl _ _⟩
   have := H.out
   have e := HD.out
   cases p
   simp only at e ⊢
   subst e
   exact this
  case round =>
   obtain ⟨k, rem, rfl, hgk, hdk, hk, HK, HC, hg⟩ := hrel
   have HGK := Lib.hid hgk; clear hgk
   have c0 := HC.out.c0
   have c1 := HC.out.c1
   have f1 := HC.out.fz 1
   simp only at c1
   have i0 : (0 : Int) <= (k : Int) := Int.natCast_nonneg _
   by_cases hlt : k < s.size
   ·have i1 : (k : Int) < (s.size : Int) := by omega
    have i2 : (k : Int) + 1 <= 1000000000 := by omega
    have hst := skip_at rem s.data.toList k (by rw [HL.out]; exact hlt)
    have hc : s.data.toList[k]'(by rw [HL.out]; exact hlt) = s[k] := rfl
    rw [hc, HK.out] at hst
    clear hc HK
    obtain ⟨c, hc⟩ : ∃ c, s[k] = c := ⟨_, rfl⟩
    rw [hc] at hst
    have HST := Lib.hid hst; clear hst
    have hT : ∀ j : Nat, j < 256 -> c.toNat = j -> c = UInt8.ofNat j := fun j hj h => by rw [<- h]; simp
    have h4 : c = 10 \/ c = 35 \/ c = 32 \/ (c.toNat ≠ 10 /\ c.toNat ≠ 35 /\ c.toNat ≠ 32) := by
     by_cases a : c.toNat = 10
     ·exact .inl (hT 10 (by omega) a)
     ·by_cases a2 : c.toNat = 35
      ·exact .inr (.inl (hT 35 (by omega) a2))
      ·by_cases a3 : c.toNat = 32
       ·exact .inr (.inr (.inl (hT 32 (by omega) a3)))
       ·exact .inr (.inr (.inr ⟨a, a2, a3⟩))
    clear hT
    have fin : ∀ (rem' : Bool) (m : Nat), Hid (skipB rem' (s.data.toList.drop (k + 1)) = R) ->
      ∃ (k' : Nat) (rem'' : Bool), Value.bool rem' = .bool rem'' /\ s.size - (k + 1) = s.size - k' /\ d <= k' /\ k' <= s.size /\ Hid (skipB rem'' (s.data.toList.drop k') = R) /\
        Hid (Cel ((wr.drewN m).setCell ⟨b, 1, none⟩ (.int .i64 ((k : Int) + 1))) b s { p with done := k' }) /\ w.grownBy ((wr.drewN m).setCell ⟨b, 1, none⟩ (.int .i64 ((k : Int) + 1))) (some b) :=
      fun rem' m hr => ⟨k + 1, rem', rfl, rfl, by omega, hlt, hr, Lib.hid ((HC.out.drewN m).set1 _), only_setCell (only_drewN hg m) (.inl rfl) _⟩
    have FIN := Lib.hid fin; clear fin
    have mE : s.size - (k + 1) < gk := by have := HGK.out; omega
    rcases h4 with h4 | h4 | h4 | ⟨h41, h42, h43⟩
    ·subst h4
     have hr : skipB false (s.data.toList.drop (k + 1)) = R := by have := HST.out; simpa using this.symm
     have HR' := Lib.hid hr; clear hr HST
     have hx : ((s[k]'hlt).toNat : Int) = 10 := by rw [hc]; rfl
     clear hc
     go_wp2_with fail
     go_quiet (fail)
     go_wp2_with fail
     go_quiet (fail)
     go_wp2_with fail
     go_roundg (s.size - (k + 1))
     case measure => exact mE
     case rel => exact FIN.out _ _ HR'
    ·subst h4
     have hr : skipB true (s.data.toList.drop (k + 1)) = R := by have := HST.out; simpa using this.symm
     have HR' := Lib.hid hr; clear hr HST
     have hx : ((s[k]'hlt).toNat : Int) = 35 := by rw [hc]; rfl
     clear hc
     go_wp2_with fail
     go_quiet (fail)
     go_wp2_with fail
     go_quiet (fail)
     go_wp2_with fail
     go_roundg (s.size - (k + 1))
     case measure => exact mE
     case rel => exact FIN.out _ _ HR'
    ·subst h4
     have hr : skipB rem (s.data.toList.drop (k + 1)) = R := by have := HST.out; simpa using this.symm
     have HR' := Lib.hid hr; clear hr HST
     have hx : ((s[k]'hlt).toNat : Int) = 32 := by rw [hc]; rfl
     clear hc
     go_wp2_with fail
     go_quiet (fail)
     go_wp2_with fail
     go_quiet (fail)
     go_wp2_with fail
     go_roundg (s.size - (k + 1))
     case measure => exact mE
     case rel => exact FIN.out _ _ HR'
    ·have hn : ∀ j : Nat, j < 256 -> c.toNat ≠ j -> (c == UInt8.ofNat j) = false := fun j hj h => by rw [u8_eq c j hj]; simpa using h
     have n1 := hn 10 (by omega) h41
     have n2 := hn 35 (by omega) h42
     have n3 := hn 32 (by omega) h43
     change (c == 10) = false at n1
     change (c == 35) = false at n2
     change (c == 32) = false at n3
     have hst := HST.out
     simp only [n1, n2, bne, n3, Bool.false_eq_true, if_false, Bool.not_false, Bool.true_and] at hst
     obtain ⟨x, hx'⟩ : ∃ x : Int, (c.toNat : Int) = x := ⟨_, rfl⟩
     have hx : ((s[k]'hlt).toNat : Int) = x := by rw [hc]; exact hx'
     have x1 : (x == 10) = false := by simp; omega
     have x2 : (x == 35) = false := by simp; omega
     have x3 : (x != 32) = true := by simp; omega
     clear hc HST n1 n2 n3 hn h41 h42 h43 hx'
     cases rem
     ·simp only [Bool.not_false, if_true] at hst
      have HE := Lib.hid hst; clear hst
      go_wp2_with fail
      go_quiet (fail)
      go_wp2_with fail
      go_quiet (fail)
      go_wp2_with fail
      refine bodyPost_ret (results_none rfl _ _ _) rfl ?_
      exact ⟨rfl, k, hdk, hk, HE.out.symm, HC.out.drewN _, only_drewN hg _⟩
     ·simp only [Bool.not_true, Bool.false_eq_true, if_false] at hst
      have HR' := Lib.hid hst.symm; clear hst
      go_wp2_with fail
      go_quiet (fail)
      go_wp2_with fail
      go_quiet (fail)
      go_wp2_with fail
      go_roundg (s.size - (k + 1))
      case measure => exact mE
      case rel => exact FIN.out _ _ HR'
   ·have hke : k = s.size := by omega
    subst hke
    have he := HK.out
    rw [skip_end _ _ _ (by rw [HL.out]; exact Nat.le_refl _)] at he
    have HE := Lib.hid he; clear he HK
    go_wp2_with fail
    go_quiet (fail)
    go_wp2_with fail
    go_end0
    exact ⟨rfl, s.size, hdk, Nat.le_refl _, by rw [<- HE.out]; exact List.drop_eq_nil_of_le (by rw [HL.out]; exact Nat.le_refl _), HC.out.drewN _, only_drewN hg _⟩
end Go.Proofs.YtalgnnidhnhciaaGreatDoor
namespace Go.Proofs.YtalgnnidhnhciaaGreatDoor
open Go Go.RowKit
theorem ret_bool {a b : Bool} (h : a = b) : Ending.returned (.bool a) = .returned (.bool b) := by rw [h]
theorem ble_dec (a b : Nat) : Nat.ble a b = decide (a <= b) := by
 rw [Bool.eq_iff_iff]; simp [Nat.ble_eq]
theorem small_dec (c : UInt8) : smallB c = decide (97 <= c.toNat /\ c.toNat <= 122) := by
 unfold smallB; rw [ble_dec, ble_dec, Bool.decide_and]
theorem dig_dec (c : UInt8) : digB c = decide (48 <= c.toNat /\ c.toNat <= 57) := by
 unfold digB; rw [ble_dec, ble_dec, Bool.decide_and]
theorem isSmall_any (c : UInt8) (w : World) : Calls Tryz.prog 118 #[.int .u8 c.toNat] w fun e w' => e = .returned (.bool (smallB c)) /\ w = w' := by
 obtain ⟨r, hr⟩ : ∃ r, smallB c = r := ⟨_, rfl⟩
 rw [hr]
 rw [small_dec] at hr
 generalize c.toNat = n at *
 have HR := Lib.hid hr; clear hr
 by_cases h1 : (97 : Int) <= (n : Int) <;> by_cases h2 : (n : Int) <= (122 : Int)
 all_goals
  go_enter Tryz.func118, Tryz.ntmps118
  go_wp2_with fail
  go_ret
  exact ⟨ret_bool (by rw [<- HR.out]; simp <;> omega), rfl⟩
theorem isDigit_any (c : UInt8) (w : World) : Calls Tryz.prog 120 #[.int .u8 c.toNat] w fun e w' => e = .returned (.bool (digB c)) /\ w = w' := by
 obtain ⟨r, hr⟩ : ∃ r, digB c = r := ⟨_, rfl⟩
 rw [hr]
 rw [dig_dec] at hr
 generalize c.toNat = n at *
 have HR := Lib.hid hr; clear hr
 by_cases h1 : (48 : Int) <= (n : Int) <;> by_cases h2 : (n : Int) <= (57 : Int)
 all_goals
  go_enter Tryz.func120, Tryz.ntmps120
  go_wp2_with fail
  go_ret
  exact ⟨ret_bool (by rw [<- HR.out]; simp <;> omega), rfl⟩
theorem isOfWord_any (c : UInt8) (w : World) : Calls Tryz.prog 144 #[.int .u8 c.toNat] w fun e w' => e = .returned (.bool (wdB c)) /\ w = w' := by
 have h1 := isSmall_any c w
 have h2 := isDigit_any c w
 obtain ⟨r, hr⟩ : ∃ r, wdB c = r := ⟨_, rfl⟩
 rw [hr]
 unfold wdB at hr
 generalize smallB c = a at *
 generalize digB c = d at *
 have HR := Lib.hid hr; clear hr
 cases a
 all_goals
  go_enter Tryz.func144, Tryz.ntmps144
  go_wp2_with (first | (refine h1.mono ?_; rintro e w1 ⟨rfl, rfl⟩) | (refine h2.mono ?_; rintro e w1 ⟨rfl, rfl⟩))
  go_ret
  exact ⟨ret_bool (by rw [<- HR.out]; simp), rfl⟩
theorem isHex_any (c : UInt8) (w : World) : Calls Tryz.prog 149 #[.int .u8 c.toNat] w fun e w' => e = .returned (.bool (hexB c)) /\ w = w' := by
 have h2 := isDigit_any c w
 obtain ⟨r, hr⟩ : ∃ r, hexB c = r := ⟨_, rfl⟩
 rw [hr]
 unfold hexB at hr
 rw [ble_dec, ble_dec] at hr
 generalize digB c = d at *
 generalize c.toNat = n at *
 obtain ⟨a, ha⟩ : ∃ a, decide (65 <= n) = a := ⟨_, rfl⟩
 obtain ⟨b, hb⟩ : ∃ b, decide (n <= 70) = b := ⟨_, rfl⟩
 rw [ha, hb] at hr
 have ha' : decide ((65 : Int) <= (n : Int)) = a := by rw [<- ha]; simp; omega
 have hb' : decide ((n : Int) <= (70 : Int)) = b := by rw [<- hb]; simp; omega
 clear ha hb
 have HR := Lib.hid hr; clear hr
 cases d <;> cases a <;> cases b
 all_goals
  go_enter Tryz.func149, Tryz.ntmps149
  go_wp2_with (refine h2.mono ?_; rintro e w1 ⟨rfl, rfl⟩)
  go_ret
  exact ⟨ret_bool HR.out, rfl⟩
theorem tw_succ (q : UInt8 -> Bool) (l : List UInt8) (k : Nat) (h : k < l.length) (hk : k <= (l.takeWhile q).length) :
  (q l[k] = true /\ k + 1 <= (l.takeWhile q).length) \/ (q l[k] = false /\ (l.takeWhile q).length = k) := by
  induction l generalizing k with
  | nil => simp at h
  | cons c r ih =>
    by_cases hc : q c = true
    ·rw [List.takeWhile_cons_of_pos hc] at hk ⊢
     cases k with
     | zero => left; simp [hc]
     | succ k =>
       have := ih k (by simpa using h) (by simpa using hk)
       simpa using this
    ·rw [List.takeWhile_cons_of_neg hc] at hk ⊢
     have : k = 0 := by simpa using hk
     subst this
     right; simp at hc; simp [hc]
theorem run_word (s : ByteArray) (w : World) (hm : s.size <= 1000000000) :
  Calls Tryz.prog 143 #[.string s, .func (.func 144) #[] #[]] w fun e w' => e = .returned (.int .i64 (s.data.toList.takeWhile wdB).length) /\ w = w' := by
  obtain ⟨T, hT⟩ : ∃ T, (s.data.toList.takeWhile wdB).length = T := ⟨_, rfl⟩
  rw [hT]
  have hl : s.data.toList.length = s.size := rfl
  have hTl : T <= s.size := by rw [<- hT, <- hl]; exact (List.takeWhile_sublist _).length_le
  have HT := Lib.hid hT; have HL := Lib.hid hl; clear hT hl
  go_enter Tryz.func143, Tryz.ntmps143
  go_wp2_with fail
  go_loopg [5] s.size (fun gk v wr => ∃ k : Nat, v = .int .i64 k /\ gk = s.size - k /\ k <= T /\ w = wr)
  case atStart => exact ⟨0, rfl, rfl, Nat.zero_le _, rfl⟩
  case round =>
   obtain ⟨k, rfl, hgk, hk, rfl⟩ := hrel
   have HGK := Lib.hid hgk; clear hgk
   have i0 : (0 : Int) <= (k : Int) := Int.natCast_nonneg _
   by_cases hlt : k < s.size
   ·have i1 : (k : Int) < (s.size : Int) := by omega
    have i2 : (k : Int) + 1 <= 1000000000 := by omega
    have hst := tw_succ wdB s.data.toList k (by rw [HL.out]; exact hlt) (by rw [HT.out]; exact hk)
    have hc : s.data.toList[k]'(by rw [HL.out]; exact hlt) = s[k] := rfl
    rw [hc, HT.out] at hst
    have hq := isOfWord_any s[k] w
    rcases hst with ⟨h1, h2⟩ | ⟨h1, h2⟩
    ·rw [h1] at hq
     clear hc h1
     go_wp2_with (go_at_call 144; refine hq.mono ?_; rintro e w1 ⟨rfl, rfl⟩)
     go_roundg (s.size - (k + 1))
     case measure => have := HGK.out; omega
     case rel => exact ⟨k + 1, by go_num, rfl, h2, rfl⟩
    ·rw [h1] at hq
     have HE := Lib.hid h2; clear hc h1 h2
     go_wp2_with (go_at_call 144; refine hq.mono ?_; rintro e w1 ⟨rfl, rfl⟩)
     go_ret
     exact ⟨by rw [HE.out]; rfl, rfl⟩
   ·have hke : k = T := by omega
    subst hke
    go_wp2_with fail
    go_ret
    exact ⟨rfl, rfl⟩
theorem run_dig (s : ByteArray) (w : World) (hm : s.size <= 1000000000) :
  Calls Tryz.prog 143 #[.string s, .func (.func 120) #[] #[]] w fun e w' => e = .returned (.int .i64 (s.data.toList.takeWhile digB).length) /\ w = w' := by
  obtain ⟨T, hT⟩ : ∃ T, (s.data.toList.takeWhile digB).length = T := ⟨_, rfl⟩
  rw [hT]
  have hl : s.data.toList.length = s.size := rfl
  have hTl : T <= s.size := by rw [<- hT, <- hl]; exact (List.takeWhile_sublist _).length_le
  have HT := Lib.hid hT; have HL := Lib.hid hl; clear hT hl
  go_enter Tryz.func143, Tryz.ntmps143
  go_wp2_with fail
  go_loopg [5] s.size (fun gk v wr => ∃ k : Nat, v = .int .i64 k /\ gk = s.size - k /\ k <= T /\ w = wr)
  case atStart => exact ⟨0, rfl, rfl, Nat.zero_le _, rfl⟩
  case round =>
   obtain ⟨k, rfl, hgk, hk, rfl⟩ := hrel
   have HGK := Lib.hid hgk; clear hgk
   have i0 : (0 : Int) <= (k : Int) := Int.natCast_nonneg _
   by_cases hlt : k < s.size
   ·have i1 : (k : Int) < (s.size : Int) := by omega
    have i2 : (k : Int) + 1 <= 1000000000 := by omega
    have hst := tw_succ digB s.data.toList k (by rw [HL.out]; exact hlt) (by rw [HT.out]; exact hk)
    have hc : s.data.toList[k]'(by rw [HL.out]; exact hlt) = s[k] := rfl
    rw [hc, HT.out] at hst
    have hq := isDigit_any s[k] w
    rcases hst with ⟨h1, h2⟩ | ⟨h1, h2⟩
    ·rw [h1] at hq
     clear hc h1
     go_wp2_with (go_at_call 120; refine hq.mono ?_; rintro e w1 ⟨rfl, rfl⟩)
     go_roundg (s.size - (k + 1))
     case measure => have := HGK.out; omega
     case rel => exact ⟨k + 1, by go_num, rfl, h2, rfl⟩
    ·rw [h1] at hq
     have HE := Lib.hid h2; clear hc h1 h2
     go_wp2_with (go_at_call 120; refine hq.mono ?_; rintro e w1 ⟨rfl, rfl⟩)
     go_ret
     exact ⟨by rw [HE.out]; rfl, rfl⟩
   ·have hke : k = T := by omega
    subst hke
    go_wp2_with fail
    go_ret
    exact ⟨rfl, rfl⟩
theorem run_hex (s : ByteArray) (w : World) (hm : s.size <= 1000000000) :
  Calls Tryz.prog 143 #[.string s, .func (.func 149) #[] #[]] w fun e w' => e = .returned (.int .i64 (s.data.toList.takeWhile hexB).length) /\ w = w' := by
  obtain ⟨T, hT⟩ : ∃ T, (s.data.toList.takeWhile hexB).length = T := ⟨_, rfl⟩
  rw [hT]
  have hl : s.data.toList.length = s.size := rfl
  have hTl : T <= s.size := by rw [<- hT, <- hl]; exact (List.takeWhile_sublist _).length_le
  have HT := Lib.hid hT; have HL := Lib.hid hl; clear hT hl
  go_enter Tryz.func143, Tryz.ntmps143
  go_wp2_with fail
  go_loopg [5] s.size (fun gk v wr => ∃ k : Nat, v = .int .i64 k /\ gk = s.size - k /\ k <= T /\ w = wr)
  case atStart => exact ⟨0, rfl, rfl, Nat.zero_le _, rfl⟩
  case round =>
   obtain ⟨k, rfl, hgk, hk, rfl⟩ := hrel
   have HGK := Lib.hid hgk; clear hgk
   have i0 : (0 : Int) <= (k : Int) := Int.natCast_nonneg _
   by_cases hlt : k < s.size
   ·have i1 : (k : Int) < (s.size : Int) := by omega
    have i2 : (k : Int) + 1 <= 1000000000 := by omega
    have hst := tw_succ hexB s.data.toList k (by rw [HL.out]; exact hlt) (by rw [HT.out]; exact hk)
    have hc : s.data.toList[k]'(by rw [HL.out]; exact hlt) = s[k] := rfl
    rw [hc, HT.out] at hst
    have hq := isHex_any s[k] w
    rcases hst with ⟨h1, h2⟩ | ⟨h1, h2⟩
    ·rw [h1] at hq
     clear hc h1
     go_wp2_with (go_at_call 149; refine hq.mono ?_; rintro e w1 ⟨rfl, rfl⟩)
     go_roundg (s.size - (k + 1))
     case measure => have := HGK.out; omega
     case rel => exact ⟨k + 1, by go_num, rfl, h2, rfl⟩
    ·rw [h1] at hq
     have HE := Lib.hid h2; clear hc h1 h2
     go_wp2_with (go_at_call 149; refine hq.mono ?_; rintro e w1 ⟨rfl, rfl⟩)
     go_ret
     exact ⟨by rw [HE.out]; rfl, rfl⟩
   ·have hke : k = T := by omega
    subst hke
    go_wp2_with fail
    go_ret
    exact ⟨rfl, rfl⟩
end Go.Proofs.YtalgnnidhnhciaaGreatDoor
namespace Go.Proofs.YtalgnnidhnhciaaGreatDoor
open Go Go.RowKit
theorem bytes_below (w : World) (s : ByteArray) : Below w.heap.size w (Lib.bytesWorld w 5 s) := Lib.bytesWorld_below _ _ _
theorem clone_any (s : ByteArray) (w : World) (hs : s.size <= 1000000000) :
  Calls Tryz.prog 145 #[.string s] w fun e w' => e = .returned (.string s) /\ Below w.heap.size w w' := by
  have hc := Tryz.stringslite_Clone s w (by omega)
  go_enter Tryz.func145, Tryz.ntmps145
  go_wp2_with (refine hc.mono ?_; rintro e w1 ⟨rfl, hb⟩)
  go_ret
  exact ⟨rfl, hb⟩
theorem lower_up (c : Int) (w : World) (h1 : 65 <= c) (h2 : c <= 70) : Calls Tryz.prog 208 #[.int .u8 c] w fun e w' => e = .returned (.int .u8 (c + 32)) /\ w = w' := by
 have hb : bits .or .u8 c 32 = c + 32 := by
  have : c = 65 \/ c = 66 \/ c = 67 \/ c = 68 \/ c = 69 \/ c = 70 := by omega
  rcases this with rfl | rfl | rfl | rfl | rfl | rfl <;> rfl
 go_enter Tryz.func208, Tryz.ntmps208
 go_wp2_with fail
 go_ret
 exact ⟨rfl, rfl⟩
theorem hexOf_snoc (l : List UInt8) (k : Nat) (h : k < l.length) : hexOf (l.take (k + 1)) = 16 * hexOf (l.take k) + hexV l[k] := by
 unfold hexOf
 rw [List.take_succ_eq_append_getElem h, List.foldl_append]; rfl
theorem hexOf_lt (l : List UInt8) (k : Nat) (h : ∀ c ∈ l, hexB c = true) : hexOf (l.take k) < 16 ^ k := by
 induction k with
 | zero => simp [hexOf]
 | succ k ih =>
   by_cases hk : k < l.length
   ·rw [hexOf_snoc l k hk, Nat.pow_succ]
    have := h l[k] (List.getElem_mem hk)
    have hv : hexV l[k] < 16 := by
     unfold hexV; unfold hexB at this
     generalize l[k] = c at *
     rw [dig_dec] at *
     rw [ble_dec, ble_dec] at this
     by_cases hd : 48 <= c.toNat /\ c.toNat <= 57
     ·simp [hd]; omega
     ·simp [hd] at this ⊢; omega
    omega
   ·rw [List.take_of_length_le (by omega)] at ih ⊢
    rw [Nat.pow_succ]; omega
theorem parseUint16 (t : ByteArray) (h0 : 0 < t.size) (h6 : t.size <= 6) (hx : ∀ c ∈ t.data.toList, hexB c = true) (w : World) :
  Calls Tryz.prog 196 #[.string t, .int .i64 16, .int .i64 64] w fun e w' => e = .returned (.tuple #[.int .u64 (hexOf t.data.toList), .nilIface]) /\ Lib.bytesWorld w 5 t = w' := by
  have hemp : t.toList.isEmpty = false := by
   rw [<- decide_eq_emptyBytes]
   exact decide_eq_false (fun h => by rw [h] at h0; exact absurd h0 (by decide))
  have hcv := Lib.run_convert_string_bytes (P := Tryz.prog) w 9 80 5 t (u := .string) Tryz.underlying9 Tryz.underlying80 Tryz.underlying5
  have hB : ∀ j, j < t.size -> (Lib.bytesWorld w 5 t).cell? ⟨w.heap.size, j, none⟩ = some (.int .u8 (t.data.toList.getD j 0).toNat) := fun j hj => Lib.bytesWorld_cell w 5 t j hj
  obtain ⟨W1, hW1⟩ : ∃ W1, Lib.bytesWorld w 5 t = W1 := ⟨_, rfl⟩
  rw [hW1] at hcv hB ⊢
  clear hW1
  obtain ⟨bs, hL⟩ : ∃ bs, t.data.toList = bs := ⟨_, rfl⟩
  have hLn : bs.length = t.size := by rw [<- hL]; rfl
  rw [hL] at hB hx ⊢
  clear hL
  have HB := Lib.hid hB; have HX := Lib.hid hx; have HLN := Lib.hid hLn; clear hB hx hLn
  have hmv : IntKind.u64.wrap (IntKind.u64.wrap 18446744073709551616 - 1) = 18446744073709551615 := by
   rw [IntKind.wrap_u64, IntKind.wrap_u64]
   decide
  go_enter Tryz.func196, Tryz.ntmps196
  go_wp2_with fail
  go_loop [12, 13, 101] (fun vu vn vi => ∃ (k : Nat) (a : Int), vu = .bool false /\ vn = .int .u64 a /\ vi = .int .i64 k /\ k <= t.size /\ 0 <= a /\ a < 16777216 /\ Hid (a = (hexOf (bs.take k) : Int)))
   (fun _ _ vi => t.size - (intOf vi).toNat)
  case atStart => exact ⟨0, 0, rfl, rfl, rfl, by omega, by omega, by omega, Lib.hid rfl⟩
  case round =>
   obtain ⟨k, a, rfl, rfl, rfl, hk, a0, a1, hh⟩ := hrel
   by_cases hkn : k < t.size
   ·have hc := HB.out k hkn
    have hkl : k < bs.length := by rw [HLN.out]; exact hkn
    have hget : bs.getD k 0 = bs[k]'hkl := by simp [List.getD, List.getElem?_eq_getElem hkl]
    rw [hget] at hc
    clear hget
    have hsn := hexOf_snoc bs k hkl
    have hlt := hexOf_lt bs (k + 1) HX.out
    have hlt0 := hexOf_lt bs k HX.out
    have hhx := HX.out _ (List.getElem_mem hkl)
    have hp : 16 ^ (k + 1) <= 16777216 := by
     have : k + 1 <= 6 := by omega
     exact Nat.pow_le_pow_right (n := 16) (by omega) this
    have hp0 : 16 ^ k <= 1048576 := Nat.pow_le_pow_right (n := 16) (by omega) (show k <= 5 by omega)
    have ha1 : a < 1048576 := by have := hh.out; omega
    have hsn' : Hid ((hexOf (bs.take (k + 1)) : Int) = 16 * a + (hexV bs[k] : Int)) := Lib.hid (by rw [hsn]; have := hh.out; omega)
    unfold hexB at hhx
    unfold hexV at hsn'
    clear hsn hlt hlt0 hp hp0 hh
    generalize bs[k]'hkl = c at *
    rw [dig_dec] at *
    rw [ble_dec, ble_dec] at hhx
    have hc256 : c.toNat < 256 := c.toNat_lt
    by_cases hd : 48 <= c.toNat /\ c.toNat <= 57
    ·obtain ⟨d0, d1⟩ := hd
     have hv : Hid ((hexOf (bs.take (k + 1)) : Int) = a * 16 + ((c.toNat : Int) - 48)) := by have := hsn'.out; simp [d0, d1] at this; exact Lib.hid (by rw [this]; omega)
     clear hsn' hhx
     have m1 : (48 : Int) <= (c.toNat : Int) := by omega
     have m2 : (c.toNat : Int) <= 57 := by omega
     clear d0 d1
     go_wp2_with fail
     exact ⟨⟨k + 1, _, rfl, rfl, by go_num, by omega, by omega, by omega, Lib.hid hv.out.symm⟩, by simp [intOf]; omega⟩
    ·have hhx' : 65 <= c.toNat /\ c.toNat <= 70 := by simpa [hd] using hhx
     obtain ⟨d0, d1⟩ := hhx'
     have hv : Hid ((hexOf (bs.take (k + 1)) : Int) = a * 16 + ((c.toNat : Int) + 32 - 97 + 10)) := by have := hsn'.out; simp [hd] at this; exact Lib.hid (by rw [this]; omega)
     clear hsn' hhx hd
     have m1 : (65 : Int) <= (c.toNat : Int) := by omega
     have m2 : (c.toNat : Int) <= 70 := by omega
     clear d0 d1
     have hlw := lower_up (c.toNat : Int) W1 m1 m2
     generalize (c.toNat : Int) = x at *
     go_wp2_with (refine hlw.mono ?_; rintro e w1 ⟨rfl, rfl⟩)
     exact ⟨⟨k + 1, _, rfl, rfl, by go_num, by omega, by omega, by omega, Lib.hid hv.out.symm⟩, by simp [intOf]; omega⟩
   ·have hkk : k = t.size := by omega
    subst hkk
    have he : a = (hexOf bs : Int) := by rw [hh.out, List.take_of_length_le (by rw [HLN.out]; exact Nat.le_refl _)]
    have HE := Lib.hid he; clear he hh
    go_wp2_with fail
    go_ret2
    exact ⟨by rw [HE.out]; rfl, rfl⟩
theorem parseInt16i (t : ByteArray) (h0 : 0 < t.size) (h6 : t.size <= 6) (hx : ∀ c ∈ t.data.toList, hexB c = true) (w : World) :
  Calls Tryz.prog 174 #[.string t, .int .i64 16, .int .i64 64] w fun e w' => e = .returned (.tuple #[.int .i64 (hexOf t.data.toList), .nilIface]) /\ Lib.bytesWorld w 5 t = w' := by
  have hemp : t.toList.isEmpty = false := by
   rw [<- decide_eq_emptyBytes]
   exact decide_eq_false (fun h => by rw [h] at h0; exact absurd h0 (by decide))
  have hp := parseUint16 t h0 h6 hx w
  have hlt := hexOf_lt t.data.toList t.size hx
  have hl : t.data.toList.length = t.size := rfl
  have hf := hx (t[0]'h0) (by show t.data[0] ∈ t.data.toList; simp)
  rw [List.take_of_length_le (by rw [hl]; exact Nat.le_refl _)] at hlt
  have hlt2 : hexOf t.data.toList < 16777216 := Nat.lt_of_lt_of_le hlt (Nat.pow_le_pow_right (n := 16) (by omega) h6)
  have hne : (t[0]'h0).toNat ≠ 43 /\ (t[0]'h0).toNat ≠ 45 := by
   unfold hexB at hf
   rw [dig_dec, ble_dec, ble_dec] at hf
   generalize (t[0]'h0).toNat = n at *
   simp at hf; omega
  obtain ⟨hn1, hn2⟩ := hne
  have e1 : (((t[0]'h0).toNat : Int) == 43) = false := by simp; omega
  have e2 : (((t[0]'h0).toNat : Int) == 45) = false := by simp; omega
  obtain ⟨v, hv⟩ : ∃ v, hexOf t.data.toList = v := ⟨_, rfl⟩
  rw [hv] at hp hlt2 ⊢
  clear hv hlt hl hf hn1 hn2 hx
  have i0 : (0 : Int) <= (v : Int) := Int.natCast_nonneg _
  have i1 : (v : Int) < 16777216 := by omega
  generalize (v : Int) = V at *
  generalize Lib.bytesWorld w 5 t = W1 at *
  go_enter Tryz.func174, Tryz.ntmps174
  go_wp2_with (refine hp.mono ?_; rintro e w1 ⟨rfl, rfl⟩)
  go_ret2
  exact ⟨rfl, rfl⟩
theorem parseInt16 (t : ByteArray) (h0 : 0 < t.size) (h6 : t.size <= 6) (hx : ∀ c ∈ t.data.toList, hexB c = true) (w : World) :
  Calls Tryz.prog 150 #[.string t, .int .i64 16, .int .i64 64] w fun e w' => e = .returned (.tuple #[.int .i64 (hexOf t.data.toList), .nilIface]) /\ Below w.heap.size w w' := by
  have hp := parseInt16i t h0 h6 hx w
  have hb := bytes_below w t
  generalize Lib.bytesWorld w 5 t = W1 at *
  generalize (hexOf t.data.toList : Int) = V at *
  clear hx h0 h6
  go_enter Tryz.func150, Tryz.ntmps150
  go_wp2_with (refine hp.mono ?_; rintro e w1 ⟨rfl, rfl⟩)
  go_ret2
  exact ⟨rfl, hb⟩
end Go.Proofs.YtalgnnidhnhciaaGreatDoor
