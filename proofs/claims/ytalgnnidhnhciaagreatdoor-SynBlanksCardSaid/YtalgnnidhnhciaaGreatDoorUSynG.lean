/- Contracts of syn's reader: a step, a sign taken, brackets entered; the rows of signs that its cells stand for. Contracts of syn's reader, by the signs that are left: a step, a fault, a sign taken, brackets entered and left. -/
import Derived.Test.YtalgnnidhnhciaaGreatDoorUSynD
import Derived.Test.YtalgnnidhnhciaaGreatDoorUSynL
set_option linter.unusedVariables false
set_option linter.unusedSimpArgs false
set_option maxRecDepth 100000
set_option maxHeartbeats 4000000
namespace Go.Proofs.YtalgnnidhnhciaaGreatDoor
open Go Go.RowKit
def StepTo (s : ByteArray) (p : PS) (d : Nat) (p' : PS) : Prop :=
 ∃ (r : Bs) (g : Sg), r = skipB false (s.data.toList.drop d) /\ g = lexS r /\ r.length <= s.size /\ p'.defs = p.defs /\ p'.rules = p.rules /\ p'.deep = p.deep /\ p'.large = false /\
   ((g.large = true /\ p'.kind = 257 /\ p'.e = 2 /\ p'.place = ((s.size - r.length : Nat) : Int)) \/
    (g.large = false /\ p'.kind = g.kind /\ p'.at_ = ((s.size - r.length : Nat) : Int) /\ p'.word.data.toList = g.word /\ p'.n = g.n /\ p'.e = 0 /\ p'.place = p.place /\ ∃ d' : Nat, p'.done = d' /\ d' <= s.size /\ s.data.toList.drop d' = r.drop g.size))
theorem step_bad (w : World) (b : Nat) (s : ByteArray) (p : PS) (h : Cel w b s p) (he : p.e ≠ 0) :
  Calls Tryz.prog 40 #[.pointer (some ⟨b, 0, none⟩)] w (EndsL w b s p) := by
  have c8 := h.c8
  have H := Lib.hid h; clear h
  have q : (p.e != 0) = true := by simpa using he
  clear he
  go_enter Tryz.func40, Tryz.ntmps40
  go_wp2_with fail
  refine bodyPost_ret (results_none rfl _ _ _) rfl ?_
  exact ⟨rfl, H.out, only_refl _ _⟩
def StepE (w : World) (b : Nat) (s : ByteArray) (p : PS) (d : Nat) (e : Ending) (w' : World) : Prop := ∃ p', e = .returned (.tuple #[]) /\ StepTo s p d p' /\ Left w b s p' w'
theorem step_any (w : World) (b : Nat) (s : ByteArray) (p : PS) (d : Nat) (h : Cel w b s p) (he : p.e = 0) (hd : p.done = d) (hs : d <= s.size) (hm : s.size <= 4000) (hE : ErrV w) (hbE : 3 ≠ b) :
  Calls Tryz.prog 40 #[.pointer (some ⟨b, 0, none⟩)] w (StepE w b s p d) := by
  have hn := next_any w b s p d h hd hs hm hE hbE
  have c8 := h.c8
  rw [he] at c8
  have hl : s.data.toList.length = s.size := rfl
  have H := Lib.hid h; have HE := Lib.hid he; have HL := Lib.hid hl; clear h he hd hl
  go_enter Tryz.func40, Tryz.ntmps40
  go_wp2_with fail
  refine hn.mono ?_
  rintro e w1 ⟨d1, wd, n, g, a1, a2, a3, a4, a5, rfl, a6, a7, hL⟩
  have hC := hL.1
  have c2 := hC.c2; have c3 := hC.c3; have c4 := hC.c4; have c5 := hC.c5; have c6 := hC.c6
  have f2 := hC.fz 2; have f3 := hC.fz 3; have f4 := hC.fz 4; have f5 := hC.fz 5; have f6 := hC.fz 6
  have A3 := Lib.hid a3; have A4 := Lib.hid a4; have A6 := Lib.hid a6; have A7 := Lib.hid a7; have HLf := Lib.hid hL
  clear a3 a4 a6 a7 hL hC
  obtain ⟨lg, hlg⟩ : ∃ lg, g.large = lg := ⟨_, rfl⟩
  have hrl : (s.data.toList.drop d1).length = s.size - d1 := by rw [List.length_drop, HL.out]
  have HR := Lib.hid hrl; clear hrl
  have hst := ((((HLf.out.raw.set 2 (.int .i64 g.kind)).set 3 (.int .i64 d1)).set 4 (.string wd)).set 5 (.int .i64 n)).set 6 (.bool g.large)
  have hst2 : Left w b s { p with done := (d1 : Int) + (g.size : Int), kind := g.kind, at_ := d1, word := wd, n := n, large := g.large } (((((w1.setCell ⟨b, 2, none⟩ (.int .i64 g.kind)).setCell ⟨b, 3, none⟩ (.int .i64 d1)).setCell ⟨b, 4, none⟩ (.string wd)).setCell ⟨b, 5, none⟩ (.int .i64 n)).setCell ⟨b, 6, none⟩ (.bool g.large)) := hst.left rfl
  clear hst
  rw [hlg] at hst2
  have HS := Lib.hid hst2; clear hst2
  rw [hlg]
  cases lg
  ·have HLG := Lib.hid hlg; clear hlg
   go_wp2_with fail
   go_end0
   refine ⟨{ p with done := (d1 : Int) + (g.size : Int), kind := g.kind, at_ := d1, word := wd, n := n, large := false }, rfl, ⟨_, g, A3.out, A4.out, by rw [HR.out]; omega, rfl, rfl, rfl, rfl, .inr ⟨HLG.out, rfl, ?_, A6.out, A7.out HLG.out, HE.out, rfl, d1 + g.size, ?_, a5, ?_⟩⟩, HS.out⟩
   ·show (d1 : Int) = _; rw [HR.out]; omega
   ·show (d1 : Int) + (g.size : Int) = _; omega
   ·rw [List.drop_drop]
  ·have HLG := Lib.hid hlg; clear hlg
   have hf := fail_any _ b s _ 2 HS.out.1
   have HF := Lib.hid hf; clear hf
   go_wp2_with fail
   refine HF.out.mono ?_
   rintro e w2 ⟨rfl, hL2⟩
   have HL2 := Lib.hid hL2; clear hL2
   go_wp2_with fail
   go_end0
   have hfl : ({ p with done := (d1 : Int) + (g.size : Int), kind := g.kind, at_ := d1, word := wd, n := n, large := true } : PS).failed 2 = { p with done := (d1 : Int) + (g.size : Int), kind := 257, at_ := 0, word := ⟨#[]⟩, n := 0, large := false, place := d1, e := 2 } := by
    unfold PS.failed; rw [if_pos HE.out]
   have hL3 := HL2.out
   rw [hfl] at hL3
   refine ⟨{ p with done := (d1 : Int) + (g.size : Int), kind := 257, at_ := 0, word := ⟨#[]⟩, n := 0, large := false, place := d1, e := 2 }, rfl, ⟨_, g, A3.out, A4.out, by rw [HR.out]; omega, rfl, rfl, rfl, rfl, .inl ⟨HLG.out, rfl, rfl, ?_⟩⟩, hL3.1, only_trans HS.out.2 hL3.2⟩
   show (d1 : Int) = _; rw [HR.out]; omega
def AtS (s : ByteArray) (p : PS) (ts : Toks) : Prop :=
 ∃ (d : Nat) (pre l : List (Tok × Nat)) (t : Tok) (k : Nat), lexT s.data.toList = pre ++ (t, k) :: l /\ ts = t :: l.map Prod.fst /\ p.done = d /\ d <= s.size /\ (t.kind ≠ 256 -> lexT (s.data.toList.drop d) = l) /\
   p.kind = t.kind /\ p.word.data.toList = t.word /\ p.n = t.n /\ p.at_ = ((s.size - k : Nat) : Int) /\ p.large = false /\ p.e = 0 /\ p.place = 0 /\ t.kind ≠ 257 /\ t.kind ≠ 266 /\ (t.kind = 256 -> s.data.toList.drop d = [])
def BadS (s : ByteArray) (p : PS) (e : Nat) (ts : Toks) : Prop :=
 p.kind = 257 /\ p.large = false /\ ((p.e = e /\ e ≠ 0 /\ p.place = posT s.data.toList ts.length) \/ (e = 1 /\ p.e = 0 /\ p.at_ = posT s.data.toList ts.length))
def RelX (s : ByteArray) (p : PS) : X -> Prop
 | .ok ts => AtS s p ts
 | .error (e, ts) => BadS s p e ts
theorem posT_suffix {t : Bs} {pre l : List (Tok × Nat)} {x : Tok} {k : Nat} (h : lexT t = pre ++ (x, k) :: l) : posT t (l.length + 1) = t.length - k := by
 unfold posT
 rw [h]
 have e : (pre ++ (x, k) :: l).length - (l.length + 1) = pre.length := by simp
 rw [e, List.drop_left]; rfl
theorem lex_256 (u : Bs) (h : (lexS u).kind = 256) : u = [] := by
 cases u with
 | nil => rfl
 | cons c r =>
   exfalso
   simp only [lexS] at h
   have hb : c.toNat < 256 := c.toNat_lt
   split at h
   ·simp only [wordS, wordK] at h
    repeat (first | omega | split at h)
   ·split at h
    ·simp [digS] at h
    ·split at h
     ·unfold quotS at h
      split at h
      ·split at h <;> simp [Sg.none] at h
      ·simp [Sg.none] at h
     ·split at h
      ·unfold codeS at h
       split at h
       ·split at h <;> simp [Sg.none] at h
       ·simp [Sg.none] at h
      ·split at h
       ·simp at h; omega
       ·simp [Sg.none] at h
theorem lex_large (u : Bs) (h : (lexS u).large = true) : (lexS u).kind ≠ 256 /\ (lexS u).kind ≠ 257 /\ (lexS u).kind ≠ 266 := by
 cases u with
 | nil => simp [lexS] at h
 | cons c r =>
   simp only [lexS] at h ⊢
   split at h
   ·next q =>
    rw [if_pos q]
    have hk : 258 <= wordK ((c :: r).takeWhile wdB) /\ wordK ((c :: r).takeWhile wdB) <= 265 := by unfold wordK; repeat (first | omega | split)
    simp only [wordS]; omega
   ·next q1 =>
    rw [if_neg q1]
    split at h
    ·next q => rw [if_pos q]; simp [digS]
    ·next q2 =>
     rw [if_neg q2]
     split at h
     ·unfold quotS at h
      split at h
      ·split at h <;> simp [Sg.none] at h
      ·simp [Sg.none] at h
     ·next q3 =>
      rw [if_neg q3]
      split at h
      ·next q =>
       rw [if_pos q]
       unfold codeS at h ⊢
       split at h
       ·split at h
        ·next q5 => rw [if_pos q5]; simp
        ·simp [Sg.none] at h
       ·simp [Sg.none] at h
      ·split at h <;> simp [Sg.none] at h
theorem lex_266 (u : Bs) (h : (lexS u).kind = 266) : False := by
 cases u with
 | nil => simp [lexS] at h
 | cons c r =>
   simp only [lexS] at h
   have hb : c.toNat < 256 := c.toNat_lt
   split at h
   ·simp only [wordS, wordK] at h
    repeat (first | omega | split at h)
   ·split at h
    ·simp [digS] at h
    ·split at h
     ·unfold quotS at h
      split at h
      ·split at h <;> simp [Sg.none] at h
      ·simp [Sg.none] at h
     ·split at h
      ·unfold codeS at h
       split at h
       ·split at h <;> simp [Sg.none] at h
       ·simp [Sg.none] at h
      ·split at h
       ·simp at h; omega
       ·simp [Sg.none] at h
theorem step_rel (s : ByteArray) (p p' : PS) (d : Nat) (pre : List (Tok × Nat)) (hpre : lexT s.data.toList = pre ++ lexT (s.data.toList.drop d)) (h : StepTo s p d p') (hp : p.place = 0) :
  RelX s p' (chk ((lexT (s.data.toList.drop d)).map Prod.fst)) := by
  obtain ⟨r, g, rfl, hg, hrl, -, -, -, hlg, hc⟩ := h
  generalize s.data.toList.drop d = u at *
  by_cases k6 : g.kind = 256
  ·have hr : skipB false u = [] := lex_256 _ (by rw [<- hg]; exact k6)
   have hgl : g = ⟨256, [], 0, false, 0⟩ := by rw [hg, hr]; rfl
   have e : lexT u = [(⟨256, [], 0⟩, 0)] := by simp [lexT, lexP, <- hg, k6]
   rw [e] at hpre ⊢
   rw [hr, hgl] at hc
   rcases hc with ⟨h1, -⟩ | ⟨-, h2, h3, h4, h5, h6, h7, d', h8, h9, h10⟩
   ·cases h1
   ·exact ⟨d', pre, [], _, 0, hpre, rfl, h8, h9, fun q => absurd rfl q, h2, h4, h5, h3, hlg, h6, by rw [h7, hp], by simp, by simp, fun _ => by rw [h10]; rfl⟩
  by_cases k7 : g.kind = 257
  ·have e : lexT u = [(⟨257, [], 0⟩, (skipB false u).length)] := by simp [lexT, lexP, <- hg, k7]
   rw [e] at hpre ⊢
   have hpos := posT_suffix hpre
   rcases hc with ⟨h1, -⟩ | ⟨-, h2, h3, h4, h5, h6, h7, d', h8, h9, h10⟩
   ·exact absurd (by rw [<- hg]; exact k7) (lex_large (skipB false u) (by rw [<- hg]; exact h1)).2.1
   ·exact ⟨by rw [h2, k7]; rfl, hlg, .inr ⟨rfl, h6, by rw [h3]; exact congrArg _ hpos.symm⟩⟩
  by_cases kl : g.large = true
  ·have e : lexT u = [(⟨266, [], 0⟩, (skipB false u).length)] := by simp [lexT, lexP, <- hg, k6, k7, kl]
   rw [e] at hpre ⊢
   have hpos := posT_suffix hpre
   rcases hc with ⟨-, h2, h3, h4⟩ | ⟨h1, -⟩
   ·exact ⟨h2, hlg, .inl ⟨h3, by decide, by rw [h4]; exact congrArg _ hpos.symm⟩⟩
   ·rw [h1] at kl; cases kl
  have kl' : g.large = false := by simpa using kl
  have e := lexT_step u (by rw [<- hg]; exact k6) (by rw [<- hg]; exact k7) (by rw [<- hg]; exact kl')
  rw [<- hg] at e
  rw [e] at hpre ⊢
  rcases hc with ⟨h1, -⟩ | ⟨-, h2, h3, h4, h5, h6, h7, d', h8, h9, h10⟩
  ·rw [h1] at kl'; cases kl'
  ·have k66 : g.kind ≠ 266 := fun q => lex_266 _ (by rw [<- hg]; exact q)
   have hgood : good (((⟨g.kind, g.word, g.n⟩, (skipB false u).length) :: lexT ((skipB false u).drop g.size)).map Prod.fst) := ⟨k7, k66⟩
   rw [chk_good hgood]
   exact ⟨d', pre, _, _, _, hpre, rfl, h8, h9, fun _ => by rw [h10], h2, h4, h5, h3, hlg, h6, by rw [h7, hp], k7, k66, fun q => absurd q k6⟩
end Go.Proofs.YtalgnnidhnhciaaGreatDoor
namespace Go.Proofs.YtalgnnidhnhciaaGreatDoor
open Go Go.RowKit
structure St (w : World) (b : Nat) (s : ByteArray) (x : X) (df rl : Value) (dp : Int) : Prop where
 ex : ∃ p, Cel w b s p /\ RelX s p x /\ p.defs = df /\ p.rules = rl /\ p.deep = dp
 err : ErrV w
 lt : 3 < b
 len : s.size <= 4000
section
variable {w w' : World} {b : Nat} {s : ByteArray} {x : X} {df rl : Value} {dp : Int}
theorem St.ne (h : St w b s x df rl dp) : 3 ≠ b := by have := h.lt; omega
theorem St.blt (h : St w b s x df rl dp) : b < w.heap.size := by obtain ⟨p, h, _⟩ := h.ex; exact h.lt
theorem St.alloc (h : St w b s x df rl dp) (o : Obj) : St (w.alloc o) b s x df rl dp := by
 obtain ⟨⟨p, h1, h2⟩, h3, h4, h5⟩ := h
 exact ⟨⟨p, h1.alloc o, h2⟩, h3.alloc o, h4, h5⟩
theorem St.drew (h : St w b s x df rl dp) : St w.drew b s x df rl dp := ⟨h.ex, h.err, h.lt, h.len⟩
theorem St.drewN (h : St w b s x df rl dp) (n : Nat) : St (w.drewN n) b s x df rl dp := ⟨h.ex, h.err, h.lt, h.len⟩
theorem St.below (h : St w b s x df rl dp) (hb : Below w.heap.size w w') : St w' b s x df rl dp := by
 obtain ⟨⟨p, h1, h2⟩, h3, h4, h5⟩ := h
 exact ⟨⟨p, h1.below hb, h2⟩, h3.below hb, h4, h5⟩
theorem St.far (h : St w b s x df rl dp) {q : Addr} (hq : b < q.block) (u : Value) : St (w.setCell q u) b s x df rl dp := by
 obtain ⟨⟨p, h1, h2⟩, h3, h4, h5⟩ := h
 refine ⟨⟨p, h1.far (by omega) u, h2⟩, h3.keep fun y hy => ?_, h4, h5⟩
 rw [World.cell?_setCell_other _ _ _ _ (fun e => by rw [e] at hq; simp at hq; omega)]; exact hy
end
def kX (x : X) : Int := match x with | .ok ts => kd ts | .error _ => 257
theorem RelX.kind {s : ByteArray} {p : PS} {x : X} (h : RelX s p x) : p.kind = kX x := by
 cases x with
 | error e => exact h.1
 | ok ts =>
   obtain ⟨d, pre, l, t, k, h1, h2, h3, h4, h5, h6, _⟩ := h
   rw [h6, h2]; rfl
theorem RelX.at_ {s : ByteArray} {p : PS} {ts : Toks} (h : RelX s p (.ok ts)) : p.at_ = posT s.data.toList ts.length /\ p.e = 0 /\ p.place = 0 /\ p.large = false /\ p.word.data.toList = (hd ts).word /\ p.n = (hd ts).n := by
 obtain ⟨d, pre, l, t, k, h1, h2, h3, h4, h5, h6, h7, h8, h9, h10, h11, h12, _⟩ := h
 have := posT_suffix h1
 subst h2
 refine ⟨?_, h11, h12, h10, h7, h8⟩
 rw [h9]
 simp only [List.length_cons, List.length_map]
 rw [this]; rfl
theorem RelX.fail_ok {s : ByteArray} {p : PS} {ts : Toks} (h : RelX s p (.ok ts)) (c : Nat) (hc : c ≠ 0) : RelX s (p.failed c) (.error (c, ts)) := by
 obtain ⟨h1, h2, h3, h4, h5⟩ := h.at_
 unfold PS.failed
 rw [if_pos h2]
 exact ⟨rfl, rfl, .inl ⟨rfl, hc, h1⟩⟩
theorem RelX.fail_err {s : ByteArray} {p : PS} {e : Nat × Toks} (h : RelX s p (.error e)) : RelX s (p.failed 1) (.error e) := by
 obtain ⟨e, ts⟩ := e
 obtain ⟨h1, h2, h3⟩ := h
 unfold PS.failed
 rcases h3 with ⟨a1, a2, a3⟩ | ⟨a1, a2, a3⟩
 ·rw [if_neg (by rw [a1]; omega)]
  exact ⟨rfl, rfl, .inl ⟨a1, a2, a3⟩⟩
 ·rw [if_pos a2]
  exact ⟨rfl, rfl, .inl ⟨by subst a1; rfl, by omega, a3⟩⟩
theorem PS.failed_rest (p : PS) (c : Int) : (p.failed c).defs = p.defs /\ (p.failed c).rules = p.rules /\ (p.failed c).deep = p.deep := by
 unfold PS.failed; split <;> exact ⟨rfl, rfl, rfl⟩
def Moves (w : World) (b : Nat) (s : ByteArray) (x : X) (df rl : Value) (dp : Int) (e : Ending) (w' : World) : Prop :=
 e = .returned (.tuple #[]) /\ St w' b s x df rl dp /\ w.grownBy w' (some b)
section
variable {w : World} {b : Nat} {s : ByteArray} {df rl : Value} {dp : Int}
theorem fail_st {ts : Toks} (h : St w b s (.ok ts) df rl dp) (c : Nat) (hc : c ≠ 0) : Calls Tryz.prog 74 #[.pointer (some ⟨b, 0, none⟩), .int .i64 c] w (Moves w b s (.error (c, ts)) df rl dp) := by
 obtain ⟨⟨p, h1, h2, h3, h4, h5⟩, hE, hl, hn⟩ := h
 refine (fail_any w b s p c h1).mono ?_
 rintro e w' ⟨rfl, hL, hg⟩
 obtain ⟨q1, q2, q3⟩ := p.failed_rest c
 exact ⟨rfl, ⟨⟨_, hL, h2.fail_ok c hc, by rw [q1, h3], by rw [q2, h4], by rw [q3, h5]⟩, hE.grown hg (by omega), hl, hn⟩, hg⟩
theorem fail_st' {er : Nat × Toks} (h : St w b s (.error er) df rl dp) : Calls Tryz.prog 74 #[.pointer (some ⟨b, 0, none⟩), .int .i64 1] w (Moves w b s (.error er) df rl dp) := by
 obtain ⟨⟨p, h1, h2, h3, h4, h5⟩, hE, hl, hn⟩ := h
 refine (fail_any w b s p 1 h1).mono ?_
 rintro e w' ⟨rfl, hL, hg⟩
 obtain ⟨q1, q2, q3⟩ := p.failed_rest 1
 exact ⟨rfl, ⟨⟨_, hL, h2.fail_err, by rw [q1, h3], by rw [q2, h4], by rw [q3, h5]⟩, hE.grown hg (by omega), hl, hn⟩, hg⟩
def X.syn (x : X) : X := x.on fun ts => .error (1, ts)
theorem fail_syn {x : X} (h : St w b s x df rl dp) : Calls Tryz.prog 74 #[.pointer (some ⟨b, 0, none⟩), .int .i64 1] w (Moves w b s x.syn df rl dp) := by
 cases x with
 | ok ts => exact fail_st h 1 (by omega)
 | error er => exact fail_st' h
theorem step_st {ts : Toks} (h : St w b s (.ok ts) df rl dp) (hk : kd ts ≠ 256) : Calls Tryz.prog 40 #[.pointer (some ⟨b, 0, none⟩)] w (Moves w b s (nxt ts) df rl dp) := by
 have hne := h.ne
 obtain ⟨⟨p, h1, h2, h3, h4, h5⟩, hE, hl, hn⟩ := h
 obtain ⟨d, pre, l, t, k, g1, g2, g3, g4, g5, g6, g7, g8, g9, g10, g11, g12, g13⟩ := h2
 subst g2
 have gl := g5 hk
 refine (step_any w b s p d h1 g11 g3 g4 hn hE hne).mono ?_
 rintro e w' ⟨p', rfl, hst, hL, hg⟩
 have hr := step_rel s p p' d (pre ++ [(t, k)]) (by rw [gl, g1]; simp) hst g12
 rw [gl] at hr
 obtain ⟨r, g, q1, q2, q3, q4, q5, q6, q7⟩ := hst
 exact ⟨rfl, ⟨⟨p', hL, hr, by rw [q4, h3], by rw [q5, h4], by rw [q6, h5]⟩, hE.grown hg hne, hl, hn⟩, hg⟩
theorem leave_st {x : X} (h : St w b s x df rl dp) (h0 : 0 <= dp) (h1 : dp <= 1000) : Calls Tryz.prog 178 #[.pointer (some ⟨b, 0, none⟩)] w (Moves w b s x df rl (dp - 1)) := by
 have hne := h.ne
 obtain ⟨⟨p, a1, a2, a3, a4, a5⟩, hE, hl, hn⟩ := h
 refine (leave_any w b s p a1 (by omega) (by omega)).mono ?_
 rintro e w' ⟨rfl, hL, hg⟩
 refine ⟨rfl, ⟨⟨_, hL, ?_, a3, a4, by rw [<- a5]⟩, hE.grown hg hne, hl, hn⟩, hg⟩
 cases x with
 | ok ts => exact a2
 | error e => exact a2
def Takes (w : World) (b : Nat) (s : ByteArray) (x : X) (k : Nat) (df rl : Value) (dp : Int) (e : Ending) (w' : World) : Prop :=
 ∃ (kk aa n : Int) (wd : ByteArray) (lg : Bool), e = .returned (.agg #[.int .i64 kk, .int .i64 aa, .string wd, .int .i64 n, .bool lg]) /\
   (∀ ts, x = .ok ts -> kd ts = k -> wd.data.toList = (hd ts).word /\ n = (hd ts).n) /\ St w' b s (x.on (tk k)) df rl dp /\ w.grownBy w' (some b)
end
theorem take_st {w : World} {b : Nat} {s : ByteArray} {x : X} {df rl : Value} {dp : Int} (h : St w b s x df rl dp) (k : Nat) (hk : k ≠ 256) (hk2 : k ≠ 257) : Calls Tryz.prog 77 #[.pointer (some ⟨b, 0, none⟩), .int .i64 k] w (Takes w b s x k df rl dp) := by
 have hlt := h.blt
 obtain ⟨p, hC, hR, hd1, hd2, hd3⟩ := h.ex
 have hkk := hR.kind
 have c2 := hC.c2; have c3 := hC.c3; have c4 := hC.c4; have c5 := hC.c5; have c6 := hC.c6
 by_cases hc : kX x = k
 ·have hx : ∃ ts, x = .ok ts := by
   cases x with
   | ok ts => exact ⟨ts, rfl⟩
   | error e => simp [kX] at hc; omega
  obtain ⟨ts, rfl⟩ := hx
  have hkd : kd ts = k := Int.ofNat.inj hc
  obtain ⟨-, -, -, -, q5, q6⟩ := hR.at_
  have hon : X.on (.ok ts) (tk k) = nxt ts := by simp [tk, hkd]
  have hst := fun (W : World) (hW : St W b s (.ok ts) df rl dp) => step_st hW (by omega)
  rw [hkk, hc] at c2
  have HS := Lib.hid h; have HST := Lib.hid hst; have HON := Lib.hid hon; have HKD := Lib.hid hkd; have Q5 := Lib.hid q5; have Q6 := Lib.hid q6
  clear h hst hon hkd q5 q6 hkk hc hC hR hd1 hd2 hd3
  go_enter Tryz.func77, Tryz.ntmps77
  go_wp2_with fail
  have h2 := (HS.out.alloc (.cells #[.int .i64 0, .int .i64 0, .string ⟨#[]⟩, .int .i64 0, .bool false] 91))
  refine (HST.out _ (St.alloc h2 _)).mono ?_
  rintro e w1 ⟨rfl, hS1, hg1⟩
  have hr1 : Blk w1 w.heap.size 91 #[.int .i64 0, .int .i64 0, .string ⟨#[]⟩, .int .i64 0, .bool false] := Blk.grown (Blk.alloc (Blk.new w _ _) _) hg1 (fun e => by injection e with e; omega)
  have hr2 : Blk w1 (w.heap.size + 1) 91 #[.int .i64 k, .int .i64 p.at_, .string p.word, .int .i64 p.n, .bool p.large] := by
   have := Blk.new (w.alloc (.cells #[.int .i64 0, .int .i64 0, .string ⟨#[]⟩, .int .i64 0, .bool false] 91)) 91 #[.int .i64 k, .int .i64 p.at_, .string p.word, .int .i64 p.n, .bool p.large]
   have e : (w.alloc (.cells #[.int .i64 0, .int .i64 0, .string ⟨#[]⟩, .int .i64 0, .bool false] 91)).heap.size = w.heap.size + 1 := by simp
   rw [e] at this
   exact Blk.grown this hg1 (fun e => by injection e with e; omega)
  have r0 := Blk.cell hr1 0; have r1 := Blk.cell hr1 1; have r2 := Blk.cell hr1 2; have r3 := Blk.cell hr1 3; have r4 := Blk.cell hr1 4
  have v0 := Blk.cell hr2 0; have v1 := Blk.cell hr2 1; have v2 := Blk.cell hr2 2; have v3 := Blk.cell hr2 3; have v4 := Blk.cell hr2 4
  simp only [List.getElem?_toArray, List.getElem?_cons_zero, List.getElem?_cons_succ] at r0 r1 r2 r3 r4 v0 v1 v2 v3 v4
  have fr := fun i => Blk.frozen hr1 i
  have HS1 := Lib.hid hS1; have HG1 := Lib.hid hg1
  clear hr1 hr2 hS1 hg1
  go_wp2_with fail
  refine bodyPost_ret (v := .agg #[.int .i64 k, .int .i64 p.at_, .string p.word, .int .i64 p.n, .bool p.large]) (by simp [results, Tryz.results77, go_sem, r0, r1, r2, r3, r4]) rfl ?_
  refine ⟨k, p.at_, p.n, p.word, p.large, rfl, fun ts' e _ => ?_, ?_, ?_⟩
  ·cases e; exact ⟨Q5.out, Q6.out⟩
  ·rw [HON.out]
   exact ((((HS1.out.far (by exact hlt) _).far (by exact hlt) _).far (by exact hlt) _).far (by exact hlt) _).far (by exact hlt) _
  ·have hg := only_trans (only_alloc (only_alloc (only_refl w (some b)) _) _) HG1.out
   exact only_new (only_new (only_new (only_new (only_new hg (Nat.le_refl _) _) (Nat.le_refl _) _) (Nat.le_refl _) _) (Nat.le_refl _) _) (Nat.le_refl _) _
 ·have hon : x.on (tk k) = x.syn := by
   cases x with
   | ok ts =>
     have : kd ts ≠ k := fun e => hc (by simp [kX, e])
     simp [tk, this, X.syn]
   | error e => rfl
  have hst := fun (W : World) (hW : St W b s x df rl dp) => fail_syn hW
  have q : (kX x != (k : Int)) = true := by simpa using hc
  rw [hkk] at c2
  have hno : ∀ ts, x = .ok ts -> kd ts = k -> False := fun ts e e2 => hc (by rw [e]; simp [kX, e2])
  have HS := Lib.hid h; have HST := Lib.hid hst; have HON := Lib.hid hon; have HNO := Lib.hid hno
  clear h hst hon hno hkk hc hC hR hd1 hd2 hd3
  go_enter Tryz.func77, Tryz.ntmps77
  go_wp2_with fail
  have h2 := (HS.out.alloc (.cells #[.int .i64 0, .int .i64 0, .string ⟨#[]⟩, .int .i64 0, .bool false] 91))
  refine (HST.out _ (St.alloc h2 _)).mono ?_
  rintro e w1 ⟨rfl, hS1, hg1⟩
  have hr1 : Blk w1 w.heap.size 91 #[.int .i64 0, .int .i64 0, .string ⟨#[]⟩, .int .i64 0, .bool false] := Blk.grown (Blk.alloc (Blk.new w _ _) _) hg1 (fun e => by injection e with e; omega)
  have r0 := Blk.cell hr1 0; have r1 := Blk.cell hr1 1; have r2 := Blk.cell hr1 2; have r3 := Blk.cell hr1 3; have r4 := Blk.cell hr1 4
  simp only [List.getElem?_toArray, List.getElem?_cons_zero, List.getElem?_cons_succ] at r0 r1 r2 r3 r4
  have fr := fun i => Blk.frozen hr1 i
  have HS1 := Lib.hid hS1; have HG1 := Lib.hid hg1
  clear hr1 hS1 hg1
  go_wp2_with fail
  refine bodyPost_ret (v := .agg #[.int .i64 0, .int .i64 0, .string ⟨#[]⟩, .int .i64 0, .bool false]) (by simp [results, Tryz.results77, go_sem, r0, r1, r2, r3, r4]) rfl ?_
  refine ⟨0, 0, 0, ⟨#[]⟩, false, rfl, fun ts' e e2 => (HNO.out ts' e e2).elim, ?_, ?_⟩
  ·rw [HON.out]
   exact ((((HS1.out.far (by exact hlt) _).far (by exact hlt) _).far (by exact hlt) _).far (by exact hlt) _).far (by exact hlt) _
  ·have hg := only_trans (only_alloc (only_alloc (only_refl w (some b)) _) _) HG1.out
   exact only_new (only_new (only_new (only_new (only_new hg (Nat.le_refl _) _) (Nat.le_refl _) _) (Nat.le_refl _) _) (Nat.le_refl _) _) (Nat.le_refl _) _
theorem field_sign2 (W : World) (k a n : Int) (wd : ByteArray) (lg : Bool) : (Instr.field 91 (.agg #[.int .i64 k, .int .i64 a, .string wd, .int .i64 n, .bool lg]) 2).run Tryz.prog W = .ok (.string wd) W := by
 simp [Instr.field, asAgg, go_sem]
theorem field_sign3 (W : World) (k a n : Int) (wd : ByteArray) (lg : Bool) : (Instr.field 91 (.agg #[.int .i64 k, .int .i64 a, .string wd, .int .i64 n, .bool lg]) 3).run Tryz.prog W = .ok (.int .i64 n) W := by
 simp [Instr.field, asAgg, go_sem]
end Go.Proofs.YtalgnnidhnhciaaGreatDoor
