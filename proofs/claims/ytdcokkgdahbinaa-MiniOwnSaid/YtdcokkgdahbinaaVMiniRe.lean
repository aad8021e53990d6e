/- The chapter's own names. The chapter's own names. -/
import Derived.Test.YtdcokkgdahbinaaVMiniRc
set_option linter.unusedVariables false
set_option linter.unusedSimpArgs false
set_option maxRecDepth 100000
set_option maxHeartbeats 8000000
namespace Go.Proofs.Ytdcokkgdahbinaa
open Go Go.RowKit Go.Proofs
theorem wpList_pushRow {ops : Array Oper} {rest : List Oper} {o : Oper} {a : Act} {Q : Exit -> Act -> World -> Prop} (hgd : o.guard = none) (s x : Operand)
  (ho : o.op = .call { callee := .builtin .append, args := #[s, x], argTypes := #[24, 24] })
  (B : Nat) (w0 : World) (v : Value) (k : Nat) (vals : List Value) (u : Value) (hs : a.eval s = v) (hown : w0.ownsRow B 22 1 v k vals) (huc : u.oneCell' = true) (hx : a.eval x = .slice (some ⟨w0.heap.size, 0, none⟩) 1 1)
  (hn : k <= 1000000) (hB : B <= w0.heap.size)
  (h : ∀ g cap w1, w1.ownsRow B 22 1 (sl g (k + 1) cap) (k + 1) (vals ++ [u]) -> w0.grownBy w1 v.ownBlock -> (v.ownBlock = some g \/ g = w0.heap.size + 1) -> wpList Try.prog ops Q rest (a.put o.dst (sl g (k + 1) cap)) w1) : wpList Try.prog ops Q (o :: rest) a (w0.alloc (.cells #[u] 22)) := by
  obtain ⟨i0, hi, hz0, hz1, hz2⟩ := info_parts info_row
  refine wpList_append_lies _ hgd s x _ ho B 22 i0 _ 1 24 Try.underlying24 hi hz0 hz1 hz2 rfl (by omega) v k vals hs (World.ownsRow.alloc hown _) ⟨w0.heap.size, 0, none⟩ 1 1 [u] hx rfl (World.news_of_block (cs := #[u]) (t := 22) (fr := (0, 0)) (heap_alloc_new w0 _)) (by simp [huc]) (by omega) (by unfold maxLen; omega) (by omega) (by simp; omega) (w0.heap.size + 1) (by simp) ?_
  intro g cap w1 q1 q2 q3 q4
  exact h g cap w1 q1 ⟨q2.os, q2.tape, q2.output, Nat.le_trans (by simp) q2.size, fun j hj hne => by rw [q2.block j (by simp; omega) hne]; exact Below.heap_alloc w0 _ j hj⟩ q3
def atF (E : Nat -> Nat -> Bool) (m : List Nat) (s : Nat) : Int := if m.any (fun u => E u s) then (ixN E m s : Nat) else -1
theorem atF_nil (E : Nat -> Nat -> Bool) (s : Nat) : atF E [] s = -1 := rfl
theorem atF_name {E : Nat -> Nat -> Bool} (hE : EqvN E) {m : List Nat} {z : Nat} (hz : ¬ m.any (fun u => E u z) = true) (s : Nat) : atF E (m ++ [z]) s = if E s z = true then ((m.length : Nat) : Int) else atF E m s := by
 unfold atF
 by_cases h : E s z = true
 ·have hm : ¬ m.any (fun u => E u s) = true := fun q => by
   obtain ⟨u, hu, e⟩ := List.any_eq_true.1 q
   exact hz (List.any_eq_true.2 ⟨u, hu, hE.trans _ _ _ e h⟩)
  rw [if_pos h, if_pos (by rw [List.any_append]; simp [hE.symm _ _ h])]
  unfold ixN
  have hn : m.findIdx (fun u => E u s) = m.length := by
   rw [List.findIdx_eq_length]
   intro x hx
   cases hE' : E x s with
   | false => rfl
   | true => exact absurd (List.any_eq_true.2 ⟨x, hx, hE'⟩) hm
  rw [List.findIdx_append, if_neg (by omega)]
  simp [List.findIdx_cons, hE.symm _ _ h]
 ·have hzs : E z s = false := by
   cases q : E z s with
   | false => rfl
   | true => exact absurd (hE.symm _ _ q) h
  rw [if_neg h]
  have e : (m ++ [z]).any (fun u => E u s) = m.any (fun u => E u s) := by rw [List.any_append]; simp [hzs]
  rw [e]
  split
  ·rename_i q
   rw [ix_pre E m [z] s q]
  ·rfl
theorem atF_pos {E : Nat -> Nat -> Bool} {m : List Nat} {z : Nat} (h : m.any (fun u => E u z) = true) : 0 <= atF E m z := by unfold atF; rw [if_pos h]; omega
theorem atF_neg {E : Nat -> Nat -> Bool} {m : List Nat} {z : Nat} (h : ¬ m.any (fun u => E u z) = true) : atF E m z = -1 := by unfold atF; rw [if_neg h]
theorem atF_of {T : List (List Nat)} {E : Nat -> Nat -> Bool} {m s : List Nat} (hr : repN T E = m ++ s) {z : Nat} (h : m.any (fun u => E u z) = true) : atF E m z = ((ofN T E z : Nat) : Int) := by
 unfold atF ofN
 rw [if_pos h, hr, ix_pre E m s z h]
def rowL (T : List (List Nat)) (E : Nat -> Nat -> Bool) (u a : Nat) : List Nat := (List.range a).map fun i => ofN T E (trN T u i)
theorem rowL_succ (T : List (List Nat)) (E : Nat -> Nat -> Bool) (u a : Nat) : rowL T E u (a + 1) = rowL T E u a ++ [ofN T E (trN T u a)] := by unfold rowL; rw [List.range_succ, List.map_append]; rfl
theorem rowL_all {T : List (List Nat)} {k : Nat} (hT : RectN T k) (E : Nat -> Nat -> Bool) {u : Nat} (hu : u < T.length) : rowL T E u k = (T.getD u []).map (ofN T E) := by
 have hl := hT.len u hu
 apply List.ext_getElem
 ·rw [List.length_map, hl]; simp [rowL]
 ·intro i h1 h2
  have hi : i < (T.getD u []).length := by simpa using h2
  simp only [rowL, List.getElem_map, List.getElem_range]
  unfold trN
  rw [List.getD_eq_getElem?_getD (l := T.getD u []), List.getElem?_eq_getElem hi]
  rfl
theorem apart_symm {v u : Value} (h : Apart v u) : Apart u v := by
 rcases h with h | h | h
 ·exact .inr (.inl h)
 ·exact .inl h
 ·exact .inr (.inr (fun e => h e.symm))
theorem apart_sl {v : Value} {g n c : Nat} (h : v.ownBlock ≠ some g) : Apart v (sl g n c) := .inr (.inr (fun e => h (by rw [e]; rfl)))
theorem ne_of_type' {w : World} {B B' : Nat} {e e' : TypeId} {s s' n n' g c m : Nat} {u : Value} {xs ys : List Value} (h : w.ownsRow B e s u n xs) (h' : w.ownsRow B' e' s' (sl g m c) n' ys) (hne : e ≠ e') : u.ownBlock ≠ some g := fun q => rows_ne h h' hne g q rfl
structure NmS (w wr : World) (B g n k : Nat) (Q : List (List Nat)) (F : Nat -> Int) (m : List Nat) (v9 v10 : Value) (kk : Nat) (vals : List Value) : Prop where
 at_ : Own wr B (sl g n n) n (rowZ n F)
 fi : Own wr B v9 m.length (intsN m)
 fg : v9.ownBlock ≠ some g
 out : wr.ownsRow B 22 1 v10 kk vals
 rows : ∀ q, q < kk -> Own wr B (vals.getD q undef) k (intsN (Q.getD q [])) /\ Apart v9 (vals.getD q undef) /\ (vals.getD q undef).ownBlock ≠ some g
 fr : Below B w wr
structure NmI (w wr : World) (B g n k : Nat) (Q : List (List Nat)) (F : Nat -> Int) (m : List Nat) (v9 v10 : Value) (kk : Nat) (vals : List Value) (v12 : Value) (l : List Nat) : Prop where
 s : NmS w wr B g n k Q F m v9 v10 kk vals
 row : Own wr B v12 l.length (intsN l)
 rf : Apart v9 v12
 rg : v12.ownBlock ≠ some g
 rv : ∀ q, q < kk -> Apart v12 (vals.getD q undef)
section
variable {w wr w' : World} {B g n k kk : Nat} {Q : List (List Nat)} {F F' : Nat -> Int} {m l : List Nat} {v9 v10 v12 : Value} {vals : List Value}
theorem NmS.open_ (h : NmS w wr B g n k Q F m v9 v10 kk vals) : NmI w wr B g n k Q F m v9 v10 kk vals (.slice none 0 0) [] := ⟨h, Own.nil _ _, .inr (.inl rfl), (fun e => by cases e), fun q _ => .inl rfl⟩
theorem NmI.drewN (h : NmI w wr B g n k Q F m v9 v10 kk vals v12 l) (d : Nat) : NmI w (wr.drewN d) B g n k Q F m v9 v10 kk vals v12 l := ⟨⟨h.s.at_, h.s.fi, h.s.fg, h.s.out, h.s.rows, below_drewN h.s.fr d⟩, h.row, h.rf, h.rg, h.rv⟩
theorem NmI.name (h : NmI w wr B g n k Q F m v9 v10 kk vals v12 l) (ha : Own w' B (sl g n n) n (rowZ n F')) (hf : Fr (fun q => q = g) wr w') (hB : B <= g) (hBw : B <= wr.heap.size) : NmI w w' B g n k Q F' m v9 v10 kk vals v12 l := by
 have kp : ∀ {t : TypeId} {s c : Nat} {x : Value} {ys : List Value}, wr.ownsRow B t s x c ys -> x.ownBlock ≠ some g -> w'.ownsRow B t s x c ys := fun {t s c x ys} ho hne => rowFr ho hf (fun q hq e => hne (by rw [hq, e]))
 refine ⟨⟨ha, kp h.s.fi h.s.fg, h.s.fg, kp h.s.out (ne_of_type' h.s.out h.s.at_ (by decide)), fun q hq => ⟨kp (h.s.rows q hq).1 (h.s.rows q hq).2.2, (h.s.rows q hq).2⟩, h.s.fr.trans (hf.below hBw (fun q hq e => by omega))⟩, kp h.row h.rg, h.rf, h.rg, h.rv⟩
theorem NmI.first (h : NmI w wr B g n k Q F m v9 v10 kk vals v12 l) {g9 c9 z : Nat} (hp : Pushed B wr w' v9 g9 c9 m.length (intsN m) (z : Int)) (hB : B <= wr.heap.size) (hg : g < wr.heap.size) : NmI w w' B g n k Q F (m ++ [z]) (sl g9 (m.length + 1) c9) v10 kk vals v12 l := by
 have hn9 : g9 ≠ g := fun e => by
  rcases hp.at_ with q | q
  ·exact h.s.fg (by rw [q, e])
  ·omega
 have e : intsN (m ++ [z]) = intsN m ++ [(z : Int)] := by simp [intsN]
 refine ⟨⟨(hp.other (apart_sl h.s.fg) h.s.at_).1, ?_, fun q => hn9 (by simpa [Value.ownBlock] using q), rowTurn (World.ownsRow.alloc h.s.out _) (World.ownsRow.alloc h.s.fi _) hp.grow (by decide), fun q hq => ?_, hp.below h.s.fr (Nat.le_refl _) hB⟩, (hp.other h.rf h.row).1, (hp.other h.rf h.row).2, h.rg, h.rv⟩
 ·have := hp.own
  rw [List.length_append, e]
  exact this
 ·obtain ⟨h1, h2, h3⟩ := h.s.rows q hq
  exact ⟨(hp.other h2 h1).1, (hp.other h2 h1).2, h3⟩
theorem NmI.letter (h : NmI w wr B g n k Q F m v9 v10 kk vals v12 l) {g12 c12 z : Nat} (hp : Pushed B wr w' v12 g12 c12 l.length (intsN l) (z : Int)) (hB : B <= wr.heap.size) (hg : g < wr.heap.size) : NmI w w' B g n k Q F m v9 v10 kk vals (sl g12 (l.length + 1) c12) (l ++ [z]) := by
 have hn12 : g12 ≠ g := fun e => by
  rcases hp.at_ with q | q
  ·exact h.rg (by rw [q, e])
  ·omega
 have e : intsN (l ++ [z]) = intsN l ++ [(z : Int)] := by simp [intsN]
 have hfi := hp.other (apart_symm h.rf) h.s.fi
 refine ⟨⟨(hp.other (apart_sl h.rg) h.s.at_).1, hfi.1, h.s.fg, rowTurn (World.ownsRow.alloc h.s.out _) (World.ownsRow.alloc h.row _) hp.grow (by decide), fun q hq => ?_, hp.below h.s.fr (Nat.le_refl _) hB⟩, ?_, apart_symm hfi.2, fun q => hn12 (by simpa [Value.ownBlock] using q), fun q hq => ?_⟩
 ·obtain ⟨h1, h2, h3⟩ := h.s.rows q hq
  exact ⟨(hp.other (h.rv q hq) h1).1, h2, h3⟩
 ·have := hp.own
  rw [List.length_append, e]
  exact this
 ·exact (hp.other (h.rv q hq) (h.s.rows q hq).1).2
theorem NmI.close (h : NmI w wr B g n k Q F m v9 v10 kk vals v12 l) {g10 c10 : Nat} (h1 : w'.ownsRow B 22 1 (sl g10 (kk + 1) c10) (kk + 1) (vals ++ [v12])) (h2 : wr.grownBy w' v10.ownBlock) (hB : B <= wr.heap.size) (hl : l.length = k) (hq : Q.getD kk [] = l) : NmS w w' B g n k Q F m v9 (sl g10 (kk + 1) c10) (kk + 1) (vals ++ [v12]) := by
 have hvl : vals.length = kk := by have := h.s.out.1; omega
 refine ⟨rowTurn h.s.at_ h.s.out h2 (by decide), rowTurn h.s.fi h.s.out h2 (by decide), h.s.fg, h1, fun q hq' => ?_, below_grown h.s.fr h2 hB (fun z hz => (h.s.out.lt z hz).1)⟩
 rcases Nat.lt_or_ge q kk with z | z
 ·have e : (vals ++ [v12]).getD q undef = vals.getD q undef := by simp [List.getD, List.getElem?_append_left (show q < vals.length by omega)]
  rw [e]
  obtain ⟨r1, r2, r3⟩ := h.s.rows q z
  exact ⟨rowTurn r1 h.s.out h2 (by decide), r2, r3⟩
 ·obtain rfl : q = kk := by omega
  have e : (vals ++ [v12]).getD q undef = v12 := by simp [List.getD, <- hvl]
  rw [e, hq]
  have := rowTurn h.row h.s.out h2 (by decide)
  rw [hl] at this
  exact ⟨this, h.rf, h.rg⟩
end
end Go.Proofs.Ytdcokkgdahbinaa
namespace Go.Proofs.Ytdcokkgdahbinaa
open Go Go.RowKit Go.Proofs
theorem visit_take {T : List (List Nat)} {k : Nat} (hT : RectN T k) (E : Nat -> Nat -> Bool) {u a : Nat} (hu : u < T.length) (ha : a < k) (m : List Nat) : visitN E ((T.getD u []).take (a + 1)) m = addN E (visitN E ((T.getD u []).take a) m) (trN T u a) := by
 have hl := hT.len u hu
 have hsn : (T.getD u []).take (a + 1) = (T.getD u []).take a ++ [trN T u a] := by
  rw [List.take_add_one, List.getElem?_eq_getElem (by omega)]
  unfold trN
  rw [List.getD_eq_getElem?_getD (l := T.getD u []), List.getElem?_eq_getElem (by omega)]
  rfl
 rw [hsn, visitN_snoc]
theorem names_any {w : World} {NA PA : Option Addr} {nc pc n k : Nat} {T : List (List Nat)} {p : Nat -> Nat} (h : NextR w (.slice NA n nc) T) (hl : T.length = n) (hT : RectN T k) (hp : ReadsI w (.slice PA n pc) n (rowN n p)) (hS : StepN T k (EF p)) (hn : n <= 1000) (hk : k <= 1000) :
  Calls Try.prog 35 #[.slice NA n nc, .slice PA n pc] w fun e w' => ∃ g v9 v10 vals r, e = .returned (.tuple #[sl g n n, v9, v10]) /\ (repN T (EF p)).length = r /\ w.heap.size <= g /\ NmS w w' w.heap.size g n k (quoN T (EF p)) (atF (EF p) (repN T (EF p))) (repN T (EF p)) v9 v10 r vals := by
  have hpos : 0 < n := by have := hT.pos; omega
  have hE := EF.eqv p
  obtain ⟨a1, c1', e1, q1, q2⟩ := h.form
  rw [hl] at q1
  simp only [Value.slice.injEq] at e1
  obtain ⟨rfl, -, rfl⟩ := e1
  obtain ⟨a1, c1', e1, q3, q4, -⟩ := hp.form
  simp only [Value.slice.injEq, true_and] at e1
  obtain ⟨rfl, rfl⟩ := e1
  obtain ⟨B, hB⟩ : ∃ B, w.heap.size = B := ⟨_, rfl⟩
  obtain ⟨W1, hW1⟩ : ∃ W, w.alloc (.cells (repA n (.int .i64 0)) 3) = W := ⟨_, rfl⟩
  have hb1 : Below B w W1 := by rw [<- hW1, <- hB]; exact (Below.refl _ _).alloc (Nat.le_refl _) _
  have hmk := mkI_any n hn w
  have ho1 := own_mk n hn w
  rw [hW1, hB] at hmk ho1
  obtain ⟨g, hg⟩ : ∃ g, g = B := ⟨_, rfl⟩
  have hO1 : Own W1 B (sl g n n) n (rowZ n fun j => if j < 0 then -1 else 0) := by
   rw [hg]
   have e : (rowN n fun _ => 0) = rowZ n fun j => if j < 0 then -1 else 0 := by
    show rowZ n (fun _ => ((0 : Nat) : Int)) = _
    exact rowZ_eq fun j hj => by rw [if_neg (Nat.not_lt_zero j)]; rfl
   rw [<- e]; exact ho1
  rw [<- hg] at hmk
  have hgB : B <= g := by omega
  obtain ⟨r, hr⟩ : ∃ r, (repN T (EF p)).length = r := ⟨_, rfl⟩
  have hrn : r <= n := by rw [<- hr, <- hl]; exact rep_len hT hE
  have hPB : ∀ b o, PA = some ⟨b, o, none⟩ -> b ≠ g := fun b o e => by
   obtain ⟨b', o', e', hlt, -⟩ := hp.at 0 hpos
   rw [e] at e'
   simp only [Option.some.injEq, Addr.mk.injEq, and_true] at e'
   omega
  have H := Lib.hid h; have HL := Lib.hid hl; have HT := Lib.hid hT; have HP := Lib.hid hp; have HS := Lib.hid hS; have HBE := Lib.hid hB; have HR := Lib.hid hr; have HO1 := Lib.hid hO1; have HB1 := Lib.hid hb1; have HPB := Lib.hid hPB; have HE := Lib.hid hE
  clear h hl hT hp hS hW1 hb1 ho1 hO1 hg hr hPB hE
  have n0 : (0 : Int) < (n : Int) := by omega
  rw [hB]
  clear hB
  go_enter Try.func35, Try.ntmps35
  go_wp2_with fail
  clear hmk
  go_loopw [8] (fun vi wr => ∃ i : Nat, vi = .int .i64 (i : Int) /\ i <= n /\ Hid (Own wr B (sl g n n) n (rowZ n fun j => if j < i then -1 else 0)) /\ Hid (Below B w wr)) (fun vi _ => n - (intOf vi).toNat)
  case atStart => exact ⟨0, rfl, Nat.zero_le _, HO1, HB1⟩
  case round =>
   clear HO1 HB1
   obtain ⟨i, rfl, hi, HO, HBW⟩ := hrel
   have i0 : (0 : Int) <= (i : Int) := Int.natCast_nonneg _
   by_cases hlt : i < n
   ·have i1 : (i : Int) < (n : Int) := by omega
    have t1 : decide (i < n) = true := by simpa using hlt
    have kf := World.ownsRow.frozenAt HO.out i
    obtain ⟨kv, kc⟩ : ∃ x, wr.cell? ⟨g, i, none⟩ = some x := ⟨_, (World.ownsRow.cellAt HO.out i (by omega)).trans (List.getElem?_eq_getElem (by simp [rowZ]; omega))⟩
    go_wp2_with fail
    refine ⟨⟨i + 1, by go_num, by omega, Lib.hid ?_, Lib.hid (HBW.out.setCell (p := ⟨g, i, none⟩) hgB _)⟩, by simp [intOf]; omega⟩
    have h := (Own.stored HO.out i (-1)).1
    rw [rowZ_set] at h
    have e : (rowZ n fun j => if j = i then (-1 : Int) else if j < i then -1 else 0) = rowZ n fun j => if j < i + 1 then -1 else 0 := rowZ_eq fun j hj => by
     by_cases q : j = i
     ·rw [if_pos q, if_pos (by omega)]
     ·rw [if_neg q]
      by_cases q2 : j < i
      ·rw [if_pos q2, if_pos (by omega)]
      ·rw [if_neg q2, if_neg (by omega)]
    rw [e] at h
    exact h
   ·obtain rfl : n = i := by omega
    have hO : Own wr B (sl g n n) n (rowZ n (atF (EF p) [])) := by
     have e : (rowZ n fun j => if j < n then (-1 : Int) else 0) = rowZ n (atF (EF p) []) := rowZ_eq fun j hj => by rw [if_pos hj, atF_nil]
     rw [<- e]; exact HO.out
    have HO2 := Lib.hid hO
    have hbw : Below w.heap.size w wr := by rw [HBE.out]; exact HBW.out
    obtain ⟨W2, hW2⟩ : ∃ W, wr.alloc (.cells #[.int .i64 0] 3) = W := ⟨_, rfl⟩
    have hb2 : Below wr.heap.size wr W2 := by rw [<- hW2]; exact (Below.refl _ _).alloc (Nat.le_refl _) _
    have hfi : W2.ownsRow wr.heap.size 3 1 (sl wr.heap.size 1 1) 1 (#[Value.int .i64 0] : Array Value).toList := by rw [<- hW2]; exact own_box _ _ 1 1 _ (by decide) rfl
    obtain ⟨g9, hg9⟩ : ∃ g9, g9 = wr.heap.size := ⟨_, rfl⟩
    have hgw : g < wr.heap.size := (HO2.out.lt g rfl).2
    have hBw : B <= wr.heap.size := by have := HBW.out.size; have := HBE.out; omega
    have hst : NmS w W2 B g n k (quoN T (EF p)) (atF (EF p) []) [0] (sl g9 1 1) (.slice none 0 0) 0 [] := by
     rw [hg9]
     refine ⟨hO.below_top hb2, ownsRow_any hfi hBw, (fun e => ?_), World.ownsRow_nil _ _ _ _, fun q hq => absurd hq (Nat.not_lt_zero q), HBW.out.trans (hb2.mono hBw)⟩
     have : wr.heap.size = g := by simpa [Value.ownBlock] using e
     omega
    have hnm := name_any (m := 0) (z := 0) ((HP.out.below hbw).below hb2) hst.at_ HPB.out hpos (Nat.le_refl _) (by omega)
    have HNM := Lib.hid hnm; have HST := Lib.hid hst; have HW2 := Lib.hid hW2; have HG9 := Lib.hid hg9
    have HGW : Hid (g < W2.heap.size) := Lib.hid (by have := hb2.size; omega)
    clear HO HO2 hO hbw hb2 hfi hnm hst hW2 hg9 hgw hBw HBW hlt
    go_wp2_with fail
    rw [HW2.out, <- HG9.out]
    refine HNM.out.mono ?_
    rintro e w3 ⟨rfl, ha, hf⟩
    have hs3 := (HST.out.open_.name ha hf hgB (by have := HST.out.fr.size; have := HBE.out; omega)).s
    have e3 : (rowZ n fun i => if p i = p 0 then ((0 : Nat) : Int) else atF (EF p) [] i) = rowZ n (atF (EF p) (bfsN T (EF p) 0)) := rowZ_eq fun j hj => by
     show _ = atF (EF p) ([] ++ [0]) j
     rw [atF_name HE.out (by simp)]
     by_cases q : p j = p 0
     ·rw [if_pos q, if_pos (by simpa [EF] using q)]; rfl
     ·rw [if_neg q, if_neg (by simpa [EF] using q)]
    have hs4 : NmS w w3 B g n k (quoN T (EF p)) (atF (EF p) (bfsN T (EF p) 0)) (bfsN T (EF p) 0) (sl g9 1 1) (.slice none 0 0) 0 [] :=
     ⟨by rw [<- e3]; exact hs3.at_, hs3.fi, hs3.fg, hs3.out, hs3.rows, hs3.fr⟩
    have HS4 := Lib.hid hs4
    have HG3 : Hid (g < w3.heap.size) := Lib.hid (by have := hf.size; have := HGW.out; omega)
    clear ha hf hs3 e3 hs4 HST HNM HW2 HG9 HGW
    go_wp2_with fail
    go_loopw [9, 10, 11] (fun v9 v10 v11 wr => ∃ (i : Nat) (vals : List Value), v11 = .int .i64 (i : Int) /\ i <= r /\ Hid (NmS w wr B g n k (quoN T (EF p)) (atF (EF p) (bfsN T (EF p) i)) (bfsN T (EF p) i) v9 v10 i vals) /\ Hid (g < wr.heap.size)) (fun _ _ v11 _ => r - (intOf v11).toNat)
    case atStart => exact ⟨0, [], rfl, Nat.zero_le _, HS4, HG3⟩
    case round =>
     clear HS4 HG3
     obtain ⟨i, vals, rfl, hi, HN, HG⟩ := hrel
     have i0 : (0 : Int) <= (i : Int) := Int.natCast_nonneg _
     obtain ⟨-, A9, c9, hv9, hlc, hlc2, -, -⟩ := id HN.out.fi.readsI
     subst hv9
     unfold maxLen at hlc2
     by_cases hlt : i < r
     ·obtain ⟨u, hu⟩ : ∃ u, (repN T (EF p))[i]? = some u := ⟨_, List.getElem?_eq_getElem (by rw [HR.out]; exact hlt)⟩
      have hui := bfs_at HT.out HE.out hu
      obtain ⟨hml, hmu⟩ := List.getElem?_eq_some_iff.1 hui
      have hul : u < T.length := bfs_lt HT.out _ _ (List.mem_of_getElem? hu)
      have hlen : (T.getD u []).length = k := HT.out.len u hul
      have hun : u < n := by rw [<- HL.out]; exact hul
      have HU := Lib.hid hu; have HUI := Lib.hid hui; have HLEN := Lib.hid hlen; have HUL := Lib.hid hul
      obtain ⟨M, hM⟩ : ∃ M : Nat -> List Nat, ∀ a, visitN (EF p) ((T.getD u []).take a) (bfsN T (EF p) i) = M a := ⟨_, fun _ => rfl⟩
      have hM0 : bfsN T (EF p) i = M 0 := by rw [<- hM 0]; rfl
      have hMk : bfsN T (EF p) (i + 1) = M k := by rw [bfs_some hui, <- hM k, <- hlen, List.take_length]
      have hMs : ∀ a, a < k -> M (a + 1) = addN (EF p) (M a) (trN T u a) := fun a ha => by rw [<- hM, <- hM, visit_take HT.out _ hul ha]
      have hMr : ∀ a, ∃ s, repN T (EF p) = M a ++ s := fun a => by rw [<- hM]; exact visit_pre_rep HT.out HE.out hu
      have hMi : ∀ a, (M a)[i]? = some u := fun a => by
       obtain ⟨s, e, -⟩ := visitN_pre (EF p) ((T.getD u []).take a) (bfsN T (EF p) i)
       rw [hM] at e
       rw [e, List.getElem?_append_left hml]
       exact hui
      have HMK := Lib.hid hMk; have HMS := Lib.hid hMs; have HMR := Lib.hid hMr; have HMI := Lib.hid hMi
      have i1 : (i : Int) < ((bfsN T (EF p) i).length : Int) := by omega
      have t1 : decide (i < (bfsN T (EF p) i).length) = true := by simpa using hml
      have HN0 : Hid (NmI w wr B g n k (quoN T (EF p)) (atF (EF p) (M 0)) (M 0) (.slice A9 (bfsN T (EF p) i).length c9) u10 i vals (.slice none 0 0) []) := Lib.hid (by rw [<- hM0]; exact HN.out.open_)
      have HHG := HG
      have HLM := Lib.hid (congrArg List.length hM0)
      clear HN HG hM hM0 hMk hMs hMr hMi hui hmu hu
      go_wp2_with fail
      go_loopw [9, 12, 13] (fun v9 v12 v13 wr => ∃ a : Nat, v13 = .int .i64 (a : Int) /\ a <= k /\ Hid (NmI w wr B g n k (quoN T (EF p)) (atF (EF p) (M a)) (M a) v9 u10 i vals v12 (rowL T (EF p) u a)) /\ Hid (g < wr.heap.size)) (fun _ _ v13 _ => k - (intOf v13).toNat)
      case atStart => exact ⟨0, rfl, Nat.zero_le _, HN0, HHG⟩
      case round =>
       clear HN0 HHG
       obtain ⟨a, rfl, ha, HN, HG⟩ := hrel
       have a0 : (0 : Int) <= (a : Int) := Int.natCast_nonneg _
       have hbw : Below w.heap.size w wr := by rw [HBE.out]; exact HN.out.s.fr
       obtain ⟨-, A9', c9', hv9, hlc', hlc2', -, -⟩ := id HN.out.s.fi.readsI
       subst hv9
       unfold maxLen at hlc2'
       obtain ⟨-, A12, c12, hv12, hl12, hl122, -, -⟩ := id HN.out.row.readsI
       subst hv12
       obtain ⟨g3, o3, e3, -, d3⟩ := HN.out.s.fi.readsI.at i ((List.getElem?_eq_some_iff.1 (HMI.out a)).1)
       subst e3
       have e4 : (intsN (M a)).getD i 0 = (u : Int) := by
        rw [intsN_at, List.getD_eq_getElem?_getD, HMI.out a]; rfl
       rw [e4] at d3
       obtain ⟨g1, o1, A1, m1, c1, e1, hm1, d1, r1, l1, l2⟩ := (H.out.below hbw).at_ (i := u) HUL.out
       subst e1
       rw [HLEN.out] at hm1
       rw [hm1] at d1 r1 l1
       clear hm1
       have u0 : (0 : Int) <= (u : Int) := Int.natCast_nonneg _
       have u1 : (u : Int) < (n : Int) := by omega
       have i2 : i < (M a).length := (List.getElem?_eq_some_iff.1 (HMI.out a)).1
       have i3 : (i : Int) < ((M a).length : Int) := by omega
       have hma : (M a).length <= n := by
        obtain ⟨s, e⟩ := HMR.out a
        have h1 := congrArg List.length e
        rw [List.length_append, HR.out] at h1
        omega
       have hla : (rowL T (EF p) u a).length = a := by simp [rowL]
       by_cases hlk : a < k
       ·have a1 : (a : Int) < (k : Int) := by omega
        have ta : decide (a < k) = true := by simpa using hlk
        obtain ⟨g2, o2, e2, -, d2⟩ := r1.at a hlk
        subst e2
        obtain ⟨z, hz⟩ : ∃ z, trN T u a = z := ⟨_, rfl⟩
        have hzn : z < n := by rw [<- hz, <- HL.out]; exact HT.out.lt u a HUL.out hlk
        have e5 : (intsN (T.getD u [])).getD a 0 = (z : Int) := by rw [intsN_at, <- hz]; rfl
        rw [e5] at d2
        obtain ⟨g4, o4, e4', -, d4⟩ := HN.out.s.at_.readsI.at z hzn
        simp only [sl, Option.some.injEq, Addr.mk.injEq, and_true] at e4'
        obtain ⟨rfl, rfl⟩ := e4'
        rw [rowZ_get _ hzn, Nat.zero_add] at d4
        have hs := HMS.out a hlk
        rw [hz] at hs
        have hrow := rowL_succ T (EF p) u a
        rw [hz] at hrow
        have z0 : (0 : Int) <= (z : Int) := Int.natCast_nonneg _
        have z1 : (z : Int) < (n : Int) := by omega
        obtain ⟨q, hq⟩ : ∃ q, ofN T (EF p) z = q := ⟨_, rfl⟩
        rw [hq] at hrow
        have HS' := Lib.hid hs; have HRW := Lib.hid hrow; have HQ := Lib.hid hq
        have HBw : Hid (B <= wr.heap.size) := Lib.hid (by have := hbw.size; have := HBE.out; omega)
        have HROW : Hid (Own wr B (.slice A12 a c12) a (intsN (rowL T (EF p) u a))) := Lib.hid (by have h := HN.out.row; rw [hla] at h; exact h)
        have ha9 : a <= 1000000000 := by omega
        have hm9 : (M a).length <= 1000000000 := by omega
        by_cases hmet : (M a).any (fun v => EF p v z) = true
        ·obtain ⟨s, hs2⟩ := HMR.out a
         rw [atF_of hs2 hmet, hq] at d4
         have hy0 : ¬ ((q : Nat) : Int) < 0 := by omega
         have ty : decide (((q : Nat) : Int) < 0) = false := by simp
         have HMET := Lib.hid hmet
         have HLA := Lib.hid hla
         clear hmet hs hrow hz hq e4 e5 hbw hs2 hla
         go_wp2_with (at_builtin; rw [HLA.out]; refine wpList_push rfl (.tmp 74) (.tmp 79) rfl B wr (.slice A12 a c12) a (intsN (rowL T (EF p) u a)) (q : Int) (by rfl) HROW.out (by rfl) ha9 HBw.out ?_; intro g12 cap12 w12 hp12; have HP12 := Lib.hid hp12; clear hp12)
         refine ⟨⟨a + 1, by go_num, by omega, Lib.hid ?_, Lib.hid ?_⟩, by simp [intOf]; omega⟩
         ·have hp := HP12.out
          have h := HN.out.letter (g12 := g12) (c12 := cap12) (w' := w12) (z := q) (by rw [HLA.out]; exact hp) HBw.out HG.out
          have hM1 : M (a + 1) = M a := by rw [HS'.out]; unfold addN; rw [if_pos HMET.out]
          rw [HLA.out] at h
          rw [hM1, HRW.out]
          exact h
         ·have := HP12.out.size; have := HG.out; omega
        ·have hM1 : M (a + 1) = M a ++ [z] := by rw [hs]; unfold addN; rw [if_neg hmet]
         obtain ⟨s, hs2⟩ := HMR.out (a + 1)
         rw [hM1] at hs2
         have haq : atF (EF p) (M a ++ [z]) z = ((q : Nat) : Int) := by
          rw [<- hq]
          exact atF_of hs2 (by rw [List.any_append]; simp [HE.out.refl])
         have hfn : (rowZ n fun j => if p j = p z then (((M a).length : Nat) : Int) else atF (EF p) (M a) j) = rowZ n (atF (EF p) (M a ++ [z])) := rowZ_eq fun j hj => by
          rw [atF_name HE.out hmet]
          by_cases q : p j = p z
          ·rw [if_pos q, if_pos (by simpa [EF] using q)]
          ·rw [if_neg q, if_neg (by simpa [EF] using q)]
         rw [atF_neg hmet] at d4
         have hnm := name_any (m := (M a).length) (z := z) (HP.out.below hbw) HN.out.s.at_ HPB.out hzn (Nat.le_refl _) (by omega)
         rw [hfn] at hnm
         have HNM := Lib.hid hnm; have HM1 := Lib.hid hM1; have HAQ := Lib.hid haq
         have HLA := Lib.hid hla
         clear hmet hs hrow hz hq e4 e5 hbw hs2 hla haq hfn hnm hM1
         go_wp2_with fail
         refine HNM.out.mono ?_
         rintro e w3 ⟨rfl, ha3, hf3⟩
         have h3 := HN.out.name ha3 hf3 hgB HBw.out
         have hb3 : B <= w3.heap.size := Nat.le_trans HBw.out hf3.size
         have hg3 : g < w3.heap.size := Nat.lt_of_lt_of_le HG.out hf3.size
         have HN3 := Lib.hid h3; have HB3 := Lib.hid hb3; have HG3 := Lib.hid hg3
         clear ha3 hf3 h3 hb3 hg3 HNM HN HG HBw HROW d4
         go_wp2_with (at_builtin; first | (refine wpList_push rfl (.tmp 70) (.tmp 72) rfl B w3 (.slice (some ⟨g3, o3, none⟩) (M a).length c9') (M a).length (intsN (M a)) (z : Int) (by rfl) HN3.out.s.fi (by rfl) hm9 HB3.out ?_; intro g8 cap8 w8 hp8; have hn8 := HN3.out.first (g9 := g8) (c9 := cap8) (w' := w8) (z := z) hp8 HB3.out HG3.out; obtain ⟨_, _, e8, _, d8⟩ := hn8.s.at_.readsI.at z hzn; simp only [sl, Option.some.injEq, Addr.mk.injEq, and_true] at e8; obtain ⟨rfl, rfl⟩ := e8; rw [rowZ_get _ hzn, Nat.zero_add, HAQ.out] at d8; have HN8 := Lib.hid hn8; have HB8 : Hid (B <= w8.heap.size) := Lib.hid (Nat.le_trans HB3.out hp8.size); have HG8 : Hid (g < w8.heap.size) := Lib.hid (Nat.lt_of_lt_of_le HG3.out hp8.size); clear hn8 hp8) | (rw [HLA.out]; refine wpList_push rfl (.tmp 74) (.tmp 79) rfl B _ (.slice A12 a c12) a (intsN (rowL T (EF p) u a)) (q : Int) (by rfl) (by have h := HN8.out.row; rw [HLA.out] at h; exact h) (by rfl) ha9 HB8.out ?_; intro g12 cap12 w12 hp12; have HP12 := Lib.hid hp12; clear hp12))
         refine ⟨⟨a + 1, by go_num, by omega, Lib.hid ?_, Lib.hid ?_⟩, by simp [intOf]; omega⟩
         ·have hp := HP12.out
          have h := HN8.out.letter (g12 := g12) (c12 := cap12) (w' := w12) (z := q) (by rw [HLA.out]; exact hp) HB8.out HG8.out
          rw [HLA.out] at h
          rw [HM1.out, HRW.out]
          exact h
         ·have := HP12.out.size; have := HG8.out; omega
       ·obtain rfl : k = a := by omega
        have ta : decide (k < k) = false := by simp
        have hla : (rowL T (EF p) u k).length = k := hla
        have hqa : (quoN T (EF p)).getD i [] = rowL T (EF p) u k := by rw [quo_at HU.out, rowL_all HT.out _ HUL.out]
        have HBw : Hid (B <= wr.heap.size) := Lib.hid (by have := hbw.size; have := HBE.out; omega)
        have hi9 : i <= 1000000 := by omega
        have HLA := Lib.hid hla; have HQA := Lib.hid hqa
        clear hla hqa e4 hbw
        go_wp2_with (at_builtin; rw [HLA.out]; refine wpList_pushRow rfl (.tmp 81) (.tmp 83) rfl B wr u10 i vals (.slice A12 k c12) (by rfl) HN.out.s.out rfl (by rfl) hi9 HBw.out ?_; intro g12 cap12 w12 hp1 hp2 hp3; have HP1 := Lib.hid hp1; have HP2 := Lib.hid hp2; clear hp1 hp2 hp3)
        refine ⟨⟨i + 1, vals ++ [.slice A12 k c12], by go_num, by omega, Lib.hid ?_, Lib.hid ?_⟩, by simp [intOf]; omega⟩
        ·have h0 := HN.out
         rw [HLA.out] at h0
         have h := h0.close HP1.out HP2.out HBw.out HLA.out HQA.out
         rw [HMK.out]
         exact h
        ·have := HP2.out.size; have := HG.out; simp at *; omega
     ·obtain rfl : r = i := by omega
      have hbr : bfsN T (EF p) r = repN T (EF p) := by
       have h := next_all HT.out HE.out
       rw [next_zero, HR.out] at h
       exact bfs_all HT.out HE.out (by omega)
      have hrl : (bfsN T (EF p) r).length = r := by rw [hbr]; exact HR.out
      have tr : decide (r < (bfsN T (EF p) r).length) = false := by simp [hrl]
      have tr2 : ¬ (r : Int) < ((bfsN T (EF p) r).length : Int) := by omega
      have HBR := Lib.hid hbr
      clear hbr hrl
      go_wp2_with fail
      go_ret3
      have h := HN.out
      rw [HBR.out] at h ⊢
      refine ⟨g, _, _, rfl, hgB, vals, ?_⟩
      rw [HR.out] at h ⊢
      exact h
end Go.Proofs.Ytdcokkgdahbinaa
