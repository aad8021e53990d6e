/- Plain mathematics: reading never leaves more signs than there were; a text has at most one sign more than bytes. Contracts of syn's reading of sets: where there is a fault already; what stands by itself. Contracts of syn's reading of sets: what stands by itself, with nots ahead, at each depth. -/
import Derived.Test.YtalgnnidhnhciaaGreatDoorUSynL
import Derived.Test.YtalgnnidhnhciaaGreatDoorUSynM
set_option linter.unusedVariables false
set_option linter.unusedSimpArgs false
set_option maxRecDepth 100000
set_option maxHeartbeats 8000000
namespace Go.Proofs.YtalgnnidhnhciaaGreatDoor
open Go
def Le {α : Type} (n : Nat) (y : Rd α) : Prop := ∀ a ts, y = .ok (a, ts) -> ts.length <= n
def LeX (n : Nat) (x : X) : Prop := ∀ ts, x = .ok ts -> ts.length <= n
theorem Le.err {α : Type} (n : Nat) (e : Nat × Toks) : Le n (.error e : Rd α) := fun _ _ h => by cases h
theorem Le.ok {α : Type} {n : Nat} {a : α} {ts : Toks} (h : ts.length <= n) : Le n (.ok (a, ts) : Rd α) := fun _ _ h' => by cases h'; exact h
theorem LeX.into {α : Type} {n : Nat} {x : X} {f : Toks -> Rd α} (h : LeX n x) (hf : ∀ ts, ts.length <= n -> Le n (f ts)) : Le n (x.into f) := by
 cases x with
 | error e => exact Le.err n e
 | ok ts => exact hf ts (h ts rfl)
theorem LeX.give {α : Type} {n : Nat} {x : X} {a : α} (h : LeX n x) : Le n (x.give a) := by
 cases x with
 | error e => exact Le.err n e
 | ok ts => exact Le.ok (h ts rfl)
theorem Le.then_ {α β : Type} {n : Nat} {y : Rd α} {f : α -> Toks -> Rd β} (h : Le n y) (hf : ∀ a ts, ts.length <= n -> Le n (f a ts)) : Le n (Rd.then_ y f) := by
 cases y with
 | error e => exact Le.err n e
 | ok p => exact hf p.1 p.2 (h p.1 p.2 rfl)
theorem nxt_tail {ts t : Toks} (h : nxt ts = .ok t) : t = ts.tail := by
 unfold nxt chk at h
 split at h
 ·cases h
 ·split at h
  ·cases h
  ·cases h; rfl
theorem nxt_le {n : Nat} {ts : Toks} (h : ts.length <= n) : LeX n (nxt ts) := fun t e => by rw [nxt_tail e, List.length_tail]; omega
theorem nxt_lt {ts t : Toks} (hk : kd ts ≠ 256) (h : nxt ts = .ok t) : t.length < ts.length := by
 rw [nxt_tail h, List.length_tail]
 cases ts with
 | nil => exact absurd rfl hk
 | cons a r => simp
theorem tk_le {n k : Nat} {ts : Toks} (h : ts.length <= n) : LeX n (tk k ts) := by
 unfold tk
 split
 ·exact nxt_le h
 ·exact fun t e => by cases e
theorem known_le {n : Nat} {D : List Bs} {ts : Toks} (h : ts.length <= n) : LeX n (knownX D ts) := by
 unfold knownX
 split
 ·exact nxt_le h
 ·exact fun t e => by cases e
theorem span_le {n : Nat} {ts : Toks} (h : ts.length <= n) : Le n (spanR ts) := by
 unfold spanR
 refine (nxt_le h).into fun t1 h1 => ?_
 split
 ·exact Le.ok h1
 ·refine (nxt_le h1).into fun t2 h2 => (tk_le h2).into fun t3 h3 => ?_
  split
  ·exact Le.err n _
  ·exact (tk_le h3).give
section
variable {F n : Nat} {D : List Bs}
theorem plain_le {cls : Option (Toks -> Rd Tree)} (hc : ∀ f, cls = some f -> ∀ ts, ts.length <= n -> Le n (f ts)) {ts : Toks} (h : ts.length <= n) : Le n (plainR D cls ts) := by
 unfold plainR
 split
 ·exact span_le h
 ·split
  ·exact (known_le h).give
  ·split
   ·exact (nxt_le h).give
   ·split
    ·cases cls with
     | none => exact Le.err n _
     | some f => exact ((nxt_le h).into fun t ht => hc f rfl t ht).then_ fun c t1 h1 => (tk_le h1).give
    ·exact Le.err n _
theorem not_le {nt cls : Option (Toks -> Rd Tree)} (hn : ∀ f, nt = some f -> ∀ ts, ts.length <= n -> Le n (f ts)) (hc : ∀ f, cls = some f -> ∀ ts, ts.length <= n -> Le n (f ts)) {ts : Toks} (h : ts.length <= n) : Le n (notR D nt cls ts) := by
 unfold notR
 split
 ·cases nt with
  | none => exact Le.err n _
  | some f => exact ((nxt_le h).into fun t ht => hn f rfl t ht).then_ fun c t1 h1 => Le.ok h1
 ·exact plain_le hc h
theorem bothLoop_le {nt : Toks -> Rd Tree} (hn : ∀ ts, ts.length <= n -> Le n (nt ts)) : ∀ (k : Nat) (c : Tree) (ts : Toks), ts.length <= n -> Le n (bothLoop nt k c ts) := by
 intro k
 induction k with
 | zero => intro c ts h; exact Le.ok h
 | succ k ih =>
   intro c ts h
   rw [bothLoop]
   split
   ·exact ((nxt_le h).into hn).then_ fun d t1 h1 => ih _ _ h1
   ·exact Le.ok h
theorem classLoop_le {bt : Toks -> Rd Tree} (hn : ∀ ts, ts.length <= n -> Le n (bt ts)) : ∀ (k : Nat) (c : Tree) (ts : Toks), ts.length <= n -> Le n (classLoop bt k c ts) := by
 intro k
 induction k with
 | zero => intro c ts h; exact Le.ok h
 | succ k ih =>
   intro c ts h
   rw [classLoop]
   split
   ·exact ((nxt_le h).into hn).then_ fun d t1 h1 => ih _ _ h1
   ·split
    ·exact ((nxt_le h).into hn).then_ fun d t1 h1 => ih _ _ h1
    ·exact Le.ok h
theorem both_le {nt : Toks -> Rd Tree} (hn : ∀ ts, ts.length <= n -> Le n (nt ts)) (ts : Toks) (h : ts.length <= n) : Le n (bothR F nt ts) := (hn ts h).then_ fun c t1 h1 => bothLoop_le hn F c t1 h1
theorem class_le {bt : Toks -> Rd Tree} (hn : ∀ ts, ts.length <= n -> Le n (bt ts)) (ts : Toks) (h : ts.length <= n) : Le n (classR F bt ts) := (hn ts h).then_ fun c t1 h1 => classLoop_le hn F c t1 h1
theorem lvl_le (d : Nat) : (∀ ts, ts.length <= n -> Le n ((lvlC F D d).1 ts)) /\ (∀ ts, ts.length <= n -> Le n ((lvlC F D d).2 ts)) := by
 induction d with
 | zero =>
   have h2 : ∀ ts, ts.length <= n -> Le n (notR D none none ts) := fun ts h => not_le (fun f e => by cases e) (fun f e => by cases e) h
   exact ⟨class_le (both_le h2), h2⟩
 | succ d ih =>
   have h2 : ∀ ts, ts.length <= n -> Le n (notR D (some (lvlC F D d).2) (some (lvlC F D d).1) ts) := fun ts h => not_le (fun f e => by cases e; exact ih.2) (fun f e => by cases e; exact ih.1) h
   exact ⟨class_le (both_le h2), h2⟩
variable {wg : Bool}
theorem times_le (x : Tree) {ts : Toks} (h : ts.length <= n) : Le n (timesX x ts) := by
 unfold timesX
 refine (nxt_le h).into fun t1 h1 => (tk_le h1).into fun t2 h2 => (tk_le h2).into fun t3 h3 => ?_
 split
 ·exact Le.err n _
 ·split
  ·exact Le.err n _
  ·exact (tk_le h3).into fun t4 h4 => (tk_le h4).give
theorem weight_le (x : Tree) {ts : Toks} (h : ts.length <= n) : Le n (weightX wg x ts) := by
 unfold weightX
 split
 ·exact Le.err n _
 ·exact (nxt_le h).into fun t1 h1 => (tk_le h1).give
theorem behind_le : ∀ (k : Nat) (x : Tree) (ts : Toks), ts.length <= n -> Le n (behindR wg k x ts) := by
 intro k
 induction k with
 | zero => intro c ts h; exact Le.ok h
 | succ k ih =>
   intro c ts h
   rw [behindR]
   split
   ·exact (nxt_le h).into fun t1 h1 => ih _ _ h1
   ·split
    ·exact (times_le c h).then_ fun d t1 h1 => ih _ _ h1
    ·split
     ·exact (weight_le c h).then_ fun d t1 h1 => ih _ _ h1
     ·exact Le.ok h
theorem bare_le {ei : Option (Toks -> Rd Tree)} (hc : ∀ f, ei = some f -> ∀ ts, ts.length <= n -> Le n (f ts)) {ts : Toks} (h : ts.length <= n) : Le n (bareR D ei ts) := by
 unfold bareR
 split
 ·exact (known_le h).give
 ·split
  ·cases ei with
   | none => exact Le.err n _
   | some f => exact ((nxt_le h).into fun t ht => hc f rfl t ht).then_ fun c t1 h1 => (tk_le h1).give
  ·exact (nxt_le h).give
theorem piece_le {ei : Option (Toks -> Rd Tree)} (hc : ∀ f, ei = some f -> ∀ ts, ts.length <= n -> Le n (f ts)) (ts : Toks) (h : ts.length <= n) : Le n (pieceR F D wg ei ts) := (bare_le hc h).then_ fun x t1 h1 => behind_le F x t1 h1
theorem rowLoop_le {pc : Toks -> Rd Tree} (hn : ∀ ts, ts.length <= n -> Le n (pc ts)) : ∀ (k : Nat) (c : Tree) (ts : Toks), ts.length <= n -> Le n (rowLoop pc k c ts) := by
 intro k
 induction k with
 | zero => intro c ts h; exact Le.ok h
 | succ k ih =>
   intro c ts h
   rw [rowLoop]
   split
   ·exact (hn ts h).then_ fun d t1 h1 => ih _ _ h1
   ·exact Le.ok h
theorem row_le {pc : Toks -> Rd Tree} (hn : ∀ ts, ts.length <= n -> Le n (pc ts)) (ts : Toks) (h : ts.length <= n) : Le n (rowR F pc ts) := by
 unfold rowR
 split
 ·exact Le.ok h
 ·exact (hn ts h).then_ fun c t1 h1 => rowLoop_le hn F c t1 h1
theorem eitherLoop_le {rw_ : Toks -> Rd Tree} (hn : ∀ ts, ts.length <= n -> Le n (rw_ ts)) : ∀ (k : Nat) (c : Tree) (ts : Toks), ts.length <= n -> Le n (eitherLoop rw_ k c ts) := by
 intro k
 induction k with
 | zero => intro c ts h; exact Le.ok h
 | succ k ih =>
   intro c ts h
   rw [eitherLoop]
   split
   ·exact ((nxt_le h).into hn).then_ fun d t1 h1 => ih _ _ h1
   ·exact Le.ok h
theorem either_le {rw_ : Toks -> Rd Tree} (hn : ∀ ts, ts.length <= n -> Le n (rw_ ts)) (ts : Toks) (h : ts.length <= n) : Le n (eitherR F rw_ ts) := (hn ts h).then_ fun c t1 h1 => eitherLoop_le hn F c t1 h1
theorem pc_le (d : Nat) : ∀ ts, ts.length <= n -> Le n (pcR F D wg d ts) := by
 induction d with
 | zero => exact piece_le (fun f e => by cases e)
 | succ d ih => exact piece_le (fun f e => by cases e; exact either_le (row_le ih))
theorem rex_le (d : Nat) : ∀ ts, ts.length <= n -> Le n (rexR F D wg d ts) := either_le (row_le (pc_le d))
end
theorem lexP_len : ∀ (f : Nat) (u : Bs), (lexP f u).length <= u.length + 1 := by
 intro f
 induction f with
 | zero => intro u; simp [lexP]
 | succ f ih =>
   intro u
   simp only [lexP]
   by_cases a : (lexS (skipB false u)).kind = 256
   ·simp [a]
   by_cases b : (lexS (skipB false u)).kind = 257
   ·simp [b]
   by_cases c : (lexS (skipB false u)).large = true
   ·simp [a, b, c]
   have hp := size_pos _ a b
   have hl := skip_len false u
   have hpos : 0 < (skipB false u).length := List.length_pos_iff.2 hp.1
   have := ih ((skipB false u).drop (lexS (skipB false u)).size)
   rw [List.length_drop] at this
   simp [a, b, c]; omega
theorem lexT_len (u : Bs) : (lexT u).length <= u.length + 1 := lexP_len _ _
end Go.Proofs.YtalgnnidhnhciaaGreatDoor
namespace Go.Proofs.YtalgnnidhnhciaaGreatDoor
open Go Go.RowKit
attribute [local go_sem] field_sign2 field_sign3
theorem St.len_ok {w : World} {b : Nat} {s : ByteArray} {ts : Toks} {df rl : Value} {dp : Int} (h : St w b s (.ok ts) df rl dp) : ts.length <= s.data.toList.length + 1 := by
 obtain ⟨⟨p, h1, h2, _⟩, _⟩ := h
 obtain ⟨d, pre, l, t, k, g1, g2, _⟩ := h2
 have := lexT_len s.data.toList
 rw [g1] at this
 subst g2
 simp at this ⊢; omega
theorem HeadV.lit {v : Value} (h : HeadV false v) : ∃ (k lo hi : Int) (s : ByteArray) (A : Option Addr) (n c : Nat), v = .agg #[.int .i64 k, .int .i64 lo, .int .i64 hi, .string s, .slice A n c] := by
 obtain ⟨k, lo, hi, wt, s, A, n, c, e⟩ := h
 exact ⟨k, lo, hi, s, A, n, c, e⟩
theorem reads_five {w W : World} {b : Nat} {s : ByteArray} {y : Rd Tree} {df rl : Value} {dp : Int} {k lo hi : Int} {nm : ByteArray} {A : Option Addr} {n c : Nat} (hblt : b < w.heap.size) (h1 : St W b s y.st df rl dp) (h2 : w.grownBy W (some b))
  (h3 : ∀ t ts, y = .ok (t, ts) -> TreeV false W (fun g => w.heap.size < g) (.agg #[.int .i64 k, .int .i64 lo, .int .i64 hi, .string nm, .slice A n c]) t) :
  Reads_ false w b s y df rl dp (.returned (.agg #[.int .i64 k, .int .i64 lo, .int .i64 hi, .string nm, .slice A n c])) (fiveAt W w.heap.size (.int .i64 k) (.int .i64 lo) (.int .i64 hi) (.string nm) (.slice A n c)) :=
  ⟨_, rfl, headV_false _ _ _ _ _ _ _, fun t ts e => (h3 t ts e).five (fun g hg => Nat.le_of_lt hg) (fun g hg => Nat.ne_of_gt hg), h1.five hblt, only_five h2 (Nat.le_refl _)⟩
theorem plain_err {w : World} {b : Nat} {s : ByteArray} {er : Nat × Toks} {df rl : Value} {dp : Int} (h : St w b s (.error er) df rl dp) :
  Calls Tryz.prog 176 #[.pointer (some ⟨b, 0, none⟩)] w (Reads_ false w b s (.error er) df rl dp) := by
  have hblt := h.blt
  have h2 := h.alloc (.cells #[.int .i64 0, .int .i64 0, .int .i64 0, .string ⟨#[]⟩, .slice none 0 0] 35)
  have c2 := h2.kind
  have hf := fail_st' h2
  have HF := Lib.hid hf; clear hf h h2
  unfold kX at c2
  simp only at c2
  go_enter Tryz.func176, Tryz.ntmps176
  go_wp2_with fail
  refine HF.out.mono ?_
  rintro e w1 ⟨rfl, hS1, hg1⟩
  have hr1 : Blk w1 w.heap.size 35 #[.int .i64 0, .int .i64 0, .int .i64 0, .string ⟨#[]⟩, .slice none 0 0] := Blk.grown (Blk.new w _ _) hg1 (fun e => by injection e with e; omega)
  have r0 := Blk.cell hr1 0; have r1 := Blk.cell hr1 1; have r2 := Blk.cell hr1 2; have r3 := Blk.cell hr1 3; have r4 := Blk.cell hr1 4
  simp only [List.getElem?_toArray, List.getElem?_cons_zero, List.getElem?_cons_succ] at r0 r1 r2 r3 r4
  have fr := fun i => Blk.frozen hr1 i
  have hfin := reads_five (y := .error er) (k := 0) (lo := 0) (hi := 0) (nm := ⟨#[]⟩) (A := none) (n := 0) (c := 0) hblt hS1 (only_trans (only_alloc (only_refl _ _) _) hg1) (fun t ts e => by cases e)
  have HFN := Lib.hid hfin; clear hfin hr1 hS1 hg1
  go_wp2_with fail
  refine bodyPost_ret (v := .agg #[.int .i64 0, .int .i64 0, .int .i64 0, .string ⟨#[]⟩, .slice none 0 0]) (by simp [results, Tryz.results176, go_sem, r0, r1, r2, r3, r4]) rfl ?_
  exact HFN.out
theorem not_err {w : World} {b : Nat} {s : ByteArray} {er : Nat × Toks} {df rl : Value} {dp : Int} (h : St w b s (.error er) df rl dp) :
  Calls Tryz.prog 152 #[.pointer (some ⟨b, 0, none⟩)] w (Reads_ false w b s (.error er) df rl dp) := by
  have hblt := h.blt
  have h2 := h.alloc (.cells #[.int .i64 0, .int .i64 0, .int .i64 0, .string ⟨#[]⟩, .slice none 0 0] 35)
  have c2 := h2.kind
  have hf := plain_err h2
  have HF := Lib.hid hf; clear hf h h2
  unfold kX at c2
  simp only at c2
  go_enter Tryz.func152, Tryz.ntmps152
  go_wp2_with fail
  refine HF.out.mono ?_
  rintro e w1 ⟨v, rfl, hv, -, hS1, hg1⟩
  obtain ⟨k, lo, hi, nm, A, n, c, rfl⟩ := hv.lit
  have hr1 : Blk w1 w.heap.size 35 #[.int .i64 0, .int .i64 0, .int .i64 0, .string ⟨#[]⟩, .slice none 0 0] := Blk.grown (Blk.new w _ _) hg1 (fun e => by injection e with e; omega)
  have r0 := Blk.cell hr1 0; have r1 := Blk.cell hr1 1; have r2 := Blk.cell hr1 2; have r3 := Blk.cell hr1 3; have r4 := Blk.cell hr1 4
  simp only [List.getElem?_toArray, List.getElem?_cons_zero, List.getElem?_cons_succ] at r0 r1 r2 r3 r4
  have fr := fun i => Blk.frozen hr1 i
  have hfin := reads_five (y := .error er) (k := k) (lo := lo) (hi := hi) (nm := nm) (A := A) (n := n) (c := c) hblt hS1 (only_trans (only_alloc (only_refl _ _) _) hg1) (fun t ts e => by cases e)
  have HFN := Lib.hid hfin; clear hfin hr1 hS1 hg1
  go_wp2_with fail
  refine bodyPost_ret (v := .agg #[.int .i64 k, .int .i64 lo, .int .i64 hi, .string nm, .slice A n c]) (by simp [results, Tryz.results152, go_sem, r0, r1, r2, r3, r4]) rfl ?_
  exact HFN.out
end Go.Proofs.YtalgnnidhnhciaaGreatDoor
namespace Go.Proofs.YtalgnnidhnhciaaGreatDoor
open Go Go.RowKit
attribute [local go_sem] field_sign2 field_sign3
def Spec (r : Bool) (f : Nat) (D : List Bs) (sel : Nat -> Toks -> Rd Tree) (dp : Int) : Prop :=
 ∀ (w : World) (b : Nat) (s : ByteArray) (ts : Toks) (df rl : Value), St w b s (.ok ts) df rl dp -> NamesB w b df D ->
   Calls Tryz.prog f #[.pointer (some ⟨b, 0, none⟩)] w (Reads_ r w b s (sel (s.data.toList.length + 1) ts) df rl dp)
def ErrSpec (r : Bool) (f : Nat) (D : List Bs) : Prop :=
 ∀ (w : World) (b : Nat) (s : ByteArray) (er : Nat × Toks) (df rl : Value) (dp : Int), St w b s (.error er) df rl dp -> NamesB w b df D ->
   Calls Tryz.prog f #[.pointer (some ⟨b, 0, none⟩)] w (Reads_ r w b s (.error er) df rl dp)
theorem Spec.all {r : Bool} {f : Nat} {D : List Bs} {sel : Nat -> Toks -> Rd Tree} {dp : Int} (h : Spec r f D sel dp) (he : ErrSpec r f D) {w : World} {b : Nat} {s : ByteArray} {x : X} {df rl : Value} (hS : St w b s x df rl dp) (hN : NamesB w b df D) :
  Calls Tryz.prog f #[.pointer (some ⟨b, 0, none⟩)] w (Reads_ r w b s (x.into (sel (s.data.toList.length + 1))) df rl dp) := by
  cases x with
  | ok ts => exact h w b s ts df rl hS hN
  | error er => exact he w b s er df rl dp hS hN
theorem then_st {α β : Type} (y : Rd α) (k : Nat) (g : α -> β) : (y.then_ fun c t1 => (tk k t1).give (g c)).st = y.st.on (tk k) := by
 cases y with
 | error e => rfl
 | ok p =>
   obtain ⟨c, t1⟩ := p
   simp only [then_ok, Rd.st, on_ok]
   cases tk k t1 <;> rfl
theorem give_st {α : Type} (x : X) (a : α) : (x.give a).st = x := by cases x <;> rfl
theorem plain_ok (D : List Bs) (d : Nat) (hd12 : d <= 12) (hcls : ∀ d', d = d' + 1 -> Spec false 100 D (fun F => (lvlC F D d').1) (12 - d')) (herr : ErrSpec false 100 D) :
  Spec false 176 D (fun F => plainR D (clsE F D d).2) (12 - d) := by
  intro w b s ts df rl h hN
  have hblt := h.blt
  have h2 := h.alloc (.cells #[.int .i64 0, .int .i64 0, .int .i64 0, .string ⟨#[]⟩, .slice none 0 0] 35)
  have hN2 := hN.alloc (.cells #[.int .i64 0, .int .i64 0, .int .i64 0, .string ⟨#[]⟩, .slice none 0 0] 35)
  have c2 := h2.kind
  have hkx : kX (.ok ts) = (kd ts : Int) := rfl
  rw [hkx] at c2
  have hG2 : w.grownBy (w.alloc (.cells #[.int .i64 0, .int .i64 0, .int .i64 0, .string ⟨#[]⟩, .slice none 0 0] 35)) (some b) := only_alloc (only_refl _ _) _
  have hB2 : Blk (w.alloc (.cells #[.int .i64 0, .int .i64 0, .int .i64 0, .string ⟨#[]⟩, .slice none 0 0] 35)) w.heap.size 35 #[.int .i64 0, .int .i64 0, .int .i64 0, .string ⟨#[]⟩, .slice none 0 0] := Blk.new _ _ _
  have hz2 : (w.alloc (.cells #[.int .i64 0, .int .i64 0, .int .i64 0, .string ⟨#[]⟩, .slice none 0 0] 35)).heap.size = w.heap.size + 1 := by simp
  have HS := Lib.hid h2; have HN := Lib.hid hN2; have HG := Lib.hid hG2; have HB := Lib.hid hB2; have HZ := Lib.hid hz2
  clear h h2 hN hN2 hG2 hB2 hz2 hkx
  by_cases k0 : kd ts = 260
  ·have hsel : plainR D (clsE (s.data.toList.length + 1) D d).2 ts = spanR ts := by unfold plainR; rw [if_pos (by simp [k0])]
   have hc := span_st HS.out k0
   have q : ((kd ts : Int) == 260) = true := by simp; omega
   have HC := Lib.hid hc; have HSEL := Lib.hid hsel; clear hc hsel k0 hcls herr
   go_enter Tryz.func176, Tryz.ntmps176
   go_wp2_with fail
   refine HC.out.mono ?_
   rintro e w1 ⟨v, rfl, hv, hT, hS1, hg1⟩
   obtain ⟨k, lo, hi, nm, A, n, c, rfl⟩ := hv.lit
   have hr1 := Blk.grown HB.out hg1 (fun e => by injection e with e; omega)
   have r0 := Blk.cell hr1 0; have r1 := Blk.cell hr1 1; have r2 := Blk.cell hr1 2; have r3 := Blk.cell hr1 3; have r4 := Blk.cell hr1 4
   simp only [List.getElem?_toArray, List.getElem?_cons_zero, List.getElem?_cons_succ] at r0 r1 r2 r3 r4
   have fr := fun i => Blk.frozen hr1 i
   have hfin := reads_five (y := spanR ts) hblt hS1 (only_trans HG.out hg1) (fun t ts' e => (hT t ts' e).keep (fun g hg => by rw [HZ.out] at hg; exact hg) (fun _ _ _ _ hx => hx))
   have HFN := Lib.hid hfin; clear hfin hr1 hS1 hg1 hT hv
   go_wp2_with fail
   refine bodyPost_ret (v := .agg #[.int .i64 k, .int .i64 lo, .int .i64 hi, .string nm, .slice A n c]) (by simp [results, Tryz.results176, go_sem, r0, r1, r2, r3, r4]) rfl ?_
   have := HFN.out
   rw [<- HSEL.out] at this
   exact this
  have q0 : ((kd ts : Int) == 260) = false := by simp; omega
  by_cases k1 : kd ts = 258
  ·have hsel : plainR D (clsE (s.data.toList.length + 1) D d).2 ts = (knownX D ts).give (cName (hd ts).word) := by unfold plainR; rw [if_neg (by simp [k1]), if_pos (by simp [k1])]
   have hc := known_ok HS.out k1 HN.out
   have q : ((kd ts : Int) == 258) = true := by simp; omega
   have HC := Lib.hid hc; have HSEL := Lib.hid hsel; clear hc hsel k0 k1 hcls herr
   go_enter Tryz.func176, Tryz.ntmps176
   go_wp2_with fail
   refine HC.out.mono ?_
   rintro e w1 ⟨wd, rfl, hT, hS1, hg1⟩
   have hr1 := Blk.grown HB.out hg1 (fun e => by injection e with e; omega)
   have r0 := Blk.cell hr1 0; have r1 := Blk.cell hr1 1; have r2 := Blk.cell hr1 2; have r3 := Blk.cell hr1 3; have r4 := Blk.cell hr1 4
   simp only [List.getElem?_toArray, List.getElem?_cons_zero, List.getElem?_cons_succ] at r0 r1 r2 r3 r4
   have fr := fun i => Blk.frozen hr1 i
   have hfin := reads_five (y := (knownX D ts).give (cName (hd ts).word)) (k := 2) (lo := 0) (hi := 0) (nm := wd) (A := none) (n := 0) (c := 0) hblt (by rw [give_st]; exact hS1) (only_trans HG.out hg1) (fun t ts' e => by
    cases hq : knownX D ts with
    | error z => rw [hq] at e; cases e
    | ok z =>
      rw [hq] at e; cases e
      have e3 := hT ts ts' rfl hq
      have := TreeV.leaf false w1 (fun g => w.heap.size < g) 2 0 0 0 wd (fun _ => rfl)
      rw [e3] at this
      exact this)
   have HFN := Lib.hid hfin; clear hfin hr1 hS1 hg1 hT
   go_wp2_with fail
   refine bodyPost_ret (v := .agg #[.int .i64 2, .int .i64 0, .int .i64 0, .string wd, .slice none 0 0]) (by simp [results, Tryz.results176, go_sem, r0, r1, r2, r3, r4]) rfl ?_
   have := HFN.out
   rw [<- HSEL.out] at this
   exact this
  have q1 : ((kd ts : Int) == 258) = false := by simp; omega
  by_cases k2 : kd ts = 261
  ·have hsel : plainR D (clsE (s.data.toList.length + 1) D d).2 ts = (nxt ts).give cAny := by unfold plainR; rw [if_neg (by simp [k2]), if_neg (by simp [k2]), if_pos (by simp [k2])]
   have hc := step_st HS.out (by omega)
   have q : ((kd ts : Int) == 261) = true := by simp; omega
   have HC := Lib.hid hc; have HSEL := Lib.hid hsel; clear hc hsel k0 k1 k2 hcls herr
   go_enter Tryz.func176, Tryz.ntmps176
   go_wp2_with fail
   refine HC.out.mono ?_
   rintro e w1 ⟨rfl, hS1, hg1⟩
   have hr1 := Blk.grown HB.out hg1 (fun e => by injection e with e; omega)
   have r0 := Blk.cell hr1 0; have r1 := Blk.cell hr1 1; have r2 := Blk.cell hr1 2; have r3 := Blk.cell hr1 3; have r4 := Blk.cell hr1 4
   simp only [List.getElem?_toArray, List.getElem?_cons_zero, List.getElem?_cons_succ] at r0 r1 r2 r3 r4
   have fr := fun i => Blk.frozen hr1 i
   have hfin := reads_five (y := (nxt ts).give cAny) (k := 3) (lo := 0) (hi := 0) (nm := ⟨#[]⟩) (A := none) (n := 0) (c := 0) hblt (by rw [give_st]; exact hS1) (only_trans HG.out hg1) (fun t ts' e => by
    cases hq : nxt ts with
    | error z => rw [hq] at e; cases e
    | ok z =>
      rw [hq] at e; cases e
      exact TreeV.leaf false w1 (fun g => w.heap.size < g) 3 0 0 0 ⟨#[]⟩ (fun _ => rfl))
   have HFN := Lib.hid hfin; clear hfin hr1 hS1 hg1
   go_wp2_with fail
   refine bodyPost_ret (v := .agg #[.int .i64 3, .int .i64 0, .int .i64 0, .string ⟨#[]⟩, .slice none 0 0]) (by simp [results, Tryz.results176, go_sem, r0, r1, r2, r3, r4]) rfl ?_
   have := HFN.out
   rw [<- HSEL.out] at this
   exact this
  have q2 : ((kd ts : Int) == 261) = false := by simp; omega
  by_cases k3 : kd ts = 40
  ·obtain ⟨x1, y1, hx1, hsel, hcl⟩ : ∃ (x1 : X) (y1 : Rd Tree), entX (12 - (d : Int)) ts = x1 /\ plainR D (clsE (s.data.toList.length + 1) D d).2 ts = (y1.then_ fun c t1 => (tk 41 t1).give c) /\
       ∀ W, St W b s x1 df rl (12 - (d : Int) + 1) -> NamesB W b df D -> Calls Tryz.prog 100 #[.pointer (some ⟨b, 0, none⟩)] W (Reads_ false W b s y1 df rl (12 - (d : Int) + 1)) := by
     cases d with
     | zero =>
       refine ⟨.error (2, ts), .error (2, ts), by simp [entX], ?_, fun W hW hNW => herr W b s _ df rl _ hW hNW⟩
       unfold plainR
       rw [if_neg (by simp [k3]), if_neg (by simp [k3]), if_neg (by simp [k3]), if_pos (by simp [k3])]; rfl
     | succ d' =>
       refine ⟨nxt ts, (nxt ts).into (lvlC (s.data.toList.length + 1) D d').1, ?_, ?_, fun W hW hNW => ?_⟩
       ·unfold entX; rw [if_neg (by omega)]
       ·unfold plainR
        rw [if_neg (by simp [k3]), if_neg (by simp [k3]), if_neg (by simp [k3]), if_pos (by simp [k3])]; rfl
       ·have e : (12 - ((d' + 1 : Nat) : Int) + 1) = 12 - (d' : Int) := by omega
        rw [e] at hW ⊢
        exact Spec.all (hcls d' rfl) herr hW hNW
   have hc := enter_st HS.out (by omega) (by omega) (by omega)
   rw [hx1] at hc
   have q : ((kd ts : Int) == 40) = true := by simp; omega
   have d0 : (0 : Int) <= 12 - (d : Int) := by omega
   have d1 : 12 - (d : Int) <= 12 := by omega
   have hst := then_st y1 41 (fun c : Tree => c)
   have HST := Lib.hid hst; have HCL := Lib.hid hcl
   have HC := Lib.hid hc; have HSEL := Lib.hid hsel; clear hc hsel hx1 hcl hst k0 k1 k2 k3 hcls herr
   generalize hDP : 12 - (d : Int) = dp at *
   clear hDP
   go_enter Tryz.func176, Tryz.ntmps176
   go_wp2_with fail
   refine HC.out.mono ?_
   rintro e w1 ⟨rfl, hS1, hg1⟩
   have hr1 := Blk.grown HB.out hg1 (fun e => by injection e with e; omega)
   have hcl1 := HCL.out w1 hS1 (HN.out.grown hg1)
   have hz1 : w.heap.size + 1 <= w1.heap.size := by have := hg1.size; rw [HZ.out] at this; exact this
   have HCL1 := Lib.hid hcl1; have HR1 := Lib.hid hr1; have HG1 := Lib.hid (only_trans HG.out hg1); clear hS1 hg1 hcl1 hr1
   go_wp2_with fail
   refine HCL1.out.mono ?_
   rintro e w2 ⟨v, rfl, hv, hT, hS2, hg2⟩
   obtain ⟨k, lo, hi, nm, A, n, c, rfl⟩ := hv.lit
   have htk := take_y (hS2.alloc (.cells #[.int .i64 k, .int .i64 lo, .int .i64 hi, .string nm, .slice A n c] 35)) 41 (y1.st.on (tk 41)) rfl (by omega) (by omega) 41 rfl
   have hz2 : w1.heap.size <= w2.heap.size := hg2.size
   have hr2 := Blk.grown HR1.out hg2 (fun e => by injection e with e; omega)
   have HTK := Lib.hid htk; have HT := Lib.hid hT; have HG2 := Lib.hid (only_trans HG1.out hg2); have HR2 := Lib.hid hr2
   clear htk hT hS2 hg2 hr2 hv
   go_wp2_with fail
   refine HTK.out.mono ?_
   rintro e w3 ⟨kk, aa, n3, wd3, lg3, rfl, -, hS3, hg3⟩
   have hb3 : Blk w3 w2.heap.size 35 #[.int .i64 k, .int .i64 lo, .int .i64 hi, .string nm, .slice A n c] := Blk.grown (Blk.new w2 _ _) hg3 (fun e => by injection e with e; omega)
   have hr3 := Blk.grown (Blk.alloc HR2.out (.cells #[.int .i64 k, .int .i64 lo, .int .i64 hi, .string nm, .slice A n c] 35)) hg3 (fun e => by injection e with e; omega)
   have hT3 : ∀ t ts', y1 = .ok (t, ts') -> TreeV false w3 (fun g => w.heap.size < g /\ g ≠ b) (.agg #[.int .i64 k, .int .i64 lo, .int .i64 hi, .string nm, .slice A n c]) t := fun t ts' e =>
    (HT.out t ts' e).keep (fun g hg => ⟨by omega, by omega⟩) (fun g hg i x hx => hg3.cell (by rw [World.cell?_alloc_past _ _ _ (World.block_lt_of_cell? w2 _ hx)]; exact hx) (fun e => by injection e with e; have e' : g = b := e; omega))
   have hlv := leave_st hS3 (by omega) (by omega)
   have HLV := Lib.hid hlv; have HB3 := Lib.hid hb3; have HR3 := Lib.hid hr3; have HT3 := Lib.hid hT3; have HG3 := Lib.hid (only_trans (only_alloc HG2.out _) hg3)
   clear hlv hb3 hr3 hT3 hS3 hg3
   go_wp2_with fail
   refine HLV.out.mono ?_
   rintro e w4 ⟨rfl, hS4, hg4⟩
   have hb4 := Blk.grown HB3.out hg4 (fun e => by injection e with e; omega)
   have hr4 := Blk.grown HR3.out hg4 (fun e => by injection e with e; omega)
   have v0 := Blk.cell hb4 0; have v1 := Blk.cell hb4 1; have v2 := Blk.cell hb4 2; have v3 := Blk.cell hb4 3; have v4 := Blk.cell hb4 4
   have r0 := Blk.cell hr4 0; have r1 := Blk.cell hr4 1; have r2 := Blk.cell hr4 2; have r3 := Blk.cell hr4 3; have r4 := Blk.cell hr4 4
   simp only [List.getElem?_toArray, List.getElem?_cons_zero, List.getElem?_cons_succ] at r0 r1 r2 r3 r4 v0 v1 v2 v3 v4
   have fr := fun i => Blk.frozen hr4 i
   have e1 : dp + 1 - 1 = dp := by omega
   rw [e1] at hS4
   have hfin := reads_five (y := y1.then_ fun c t1 => (tk 41 t1).give c) (k := k) (lo := lo) (hi := hi) (nm := nm) (A := A) (n := n) (c := c) hblt (by rw [HST.out]; exact hS4) (only_trans HG3.out hg4) (fun t ts' e => by
    obtain ⟨t1, hy1⟩ : ∃ t1, y1 = .ok (t, t1) := by
     cases y1 with
     | error z => cases e
     | ok p =>
       obtain ⟨c', t1⟩ := p
       simp only [then_ok] at e
       cases hq : tk 41 t1 with
       | error z => rw [hq] at e; cases e
       | ok z => rw [hq] at e; cases e; exact ⟨t1, rfl⟩
    exact (HT3.out t t1 hy1).keep (fun g hg => hg.1) (fun g hg i x hx => hg4.cell hx (fun e => by injection e with e; exact hg.2 e)))
   have HFN := Lib.hid hfin; clear hfin hb4 hr4 hS4 hg4 e1
   go_wp2_with fail
   refine bodyPost_ret (v := .agg #[.int .i64 k, .int .i64 lo, .int .i64 hi, .string nm, .slice A n c]) (by simp [results, Tryz.results176, go_sem, r0, r1, r2, r3, r4]) rfl ?_
   have := HFN.out
   rw [<- HSEL.out] at this
   exact this
  have q3 : ((kd ts : Int) == 40) = false := by simp; omega
  have hsel : plainR D (clsE (s.data.toList.length + 1) D d).2 ts = .error (1, ts) := by unfold plainR; rw [if_neg (by simp [k0]), if_neg (by simp [k1]), if_neg (by simp [k2]), if_neg (by simp [k3])]
  have hc := fail_st HS.out 1 (by omega)
  rw [show ((1 : Nat) : Int) = 1 from rfl] at hc
  have HC := Lib.hid hc; have HSEL := Lib.hid hsel; clear hc hsel k0 k1 k2 k3 hcls herr
  go_enter Tryz.func176, Tryz.ntmps176
  go_wp2_with fail
  refine HC.out.mono ?_
  rintro e w1 ⟨rfl, hS1, hg1⟩
  have hr1 := Blk.grown HB.out hg1 (fun e => by injection e with e; omega)
  have r0 := Blk.cell hr1 0; have r1 := Blk.cell hr1 1; have r2 := Blk.cell hr1 2; have r3 := Blk.cell hr1 3; have r4 := Blk.cell hr1 4
  simp only [List.getElem?_toArray, List.getElem?_cons_zero, List.getElem?_cons_succ] at r0 r1 r2 r3 r4
  have fr := fun i => Blk.frozen hr1 i
  have hfin := reads_five (y := .error (1, ts)) (k := 0) (lo := 0) (hi := 0) (nm := ⟨#[]⟩) (A := none) (n := 0) (c := 0) hblt hS1 (only_trans HG.out hg1) (fun t ts' e => by cases e)
  have HFN := Lib.hid hfin; clear hfin hr1 hS1 hg1
  go_wp2_with fail
  refine bodyPost_ret (v := .agg #[.int .i64 0, .int .i64 0, .int .i64 0, .string ⟨#[]⟩, .slice none 0 0]) (by simp [results, Tryz.results176, go_sem, r0, r1, r2, r3, r4]) rfl ?_
  have := HFN.out
  rw [<- HSEL.out] at this
  exact this
end Go.Proofs.YtalgnnidhnhciaaGreatDoor
