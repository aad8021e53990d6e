/- Raw patterns that the laws are handed: where they lie. Contracts of what the laws make their arguments with: numbers brought within, names, how many raw patterns there are. Contract of how the laws make a set of a number. -/
import Derived.Test.YtfccnadbiglagaaGreatVSynWb
import Derived.Test.YtfccnadbiglagaaGreatVPlA
import Derived.ChangeArms
import Derived.Deep.MidRow
import Derived.IntWalk
import Derived.LoopTactic
import Derived.Deep.LoopGhost
import Derived.Deep.QuietTactic
set_option linter.unusedVariables false
set_option linter.unusedSimpArgs false
set_option maxRecDepth 100000
set_option maxHeartbeats 16000000
namespace Go.Proofs.YtfccnadbiglagaaGreat
open Go Go.ChangeShapes Go.RowKit
mutual
def RawAt (w : World) (b o : Nat) : RawP -> Prop
 | .node k n l => ∃ (A : Option Addr) (m c : Nat), CellsAt w b o [.int .i64 k, .int .i64 n, .slice A m c] /\ (Lit.int .i64 k).wf = true /\ (Lit.int .i64 n).wf = true /\ l.length = m /\ m <= c /\ c <= maxLen /\ (A = none -> c = 0) /\
   (0 < m -> ∃ g o', A = some ⟨g, o', none⟩ /\ RawsAt w g o' l)
def RawsAt (w : World) (b o : Nat) : List RawP -> Prop
 | [] => True
 | x :: xs => RawAt w b o x /\ RawsAt w b (o + 3) xs
end
def RawL (w : World) (v : Value) (l : List RawP) : Prop :=
 ∃ (A : Option Addr) (m c : Nat), v = .slice A m c /\ l.length = m /\ m <= c /\ c <= maxLen /\ (A = none -> c = 0) /\ (0 < m -> ∃ g o, A = some ⟨g, o, none⟩ /\ RawsAt w g o l)
mutual
theorem RawAt.keep {w w' : World} (hk : ∀ g i x, w.cell? ⟨g, i, none⟩ = some x -> w'.cell? ⟨g, i, none⟩ = some x) : ∀ (x : RawP) (b o : Nat), RawAt w b o x -> RawAt w' b o x
 | .node k n l, b, o, h => by
   rw [RawAt] at h ⊢
   obtain ⟨A, m, c, h1, h2, h3, h4, h5, h6, h7, h8⟩ := h
   refine ⟨A, m, c, h1.keep (hk b), h2, h3, h4, h5, h6, h7, fun hm => ?_⟩
   obtain ⟨g, o', e, hr⟩ := h8 hm
   exact ⟨g, o', e, RawsAt.keep hk l g o' hr⟩
theorem RawsAt.keep {w w' : World} (hk : ∀ g i x, w.cell? ⟨g, i, none⟩ = some x -> w'.cell? ⟨g, i, none⟩ = some x) : ∀ (l : List RawP) (b o : Nat), RawsAt w b o l -> RawsAt w' b o l
 | [], _, _, _ => by rw [RawsAt]; trivial
 | x :: xs, b, o, h => by
   rw [RawsAt] at h ⊢
   exact ⟨RawAt.keep hk x b o h.1, RawsAt.keep hk xs b (o + 3) h.2⟩
end
theorem RawL.keep {w w' : World} {v : Value} {l : List RawP} (h : RawL w v l) (hk : ∀ g i x, w.cell? ⟨g, i, none⟩ = some x -> w'.cell? ⟨g, i, none⟩ = some x) : RawL w' v l := by
 obtain ⟨A, m, c, h1, h2, h3, h4, h5, h6⟩ := h
 refine ⟨A, m, c, h1, h2, h3, h4, h5, fun hm => ?_⟩
 obtain ⟨g, o', e, hr⟩ := h6 hm
 exact ⟨g, o', e, RawsAt.keep hk l g o' hr⟩
theorem RawL.below {w w' : World} {v : Value} {l : List RawP} (h : RawL w v l) (hb : Below w.heap.size w w') : RawL w' v l :=
 h.keep fun g i x hx => by rw [hb.cell (p := ⟨g, i, none⟩) (World.block_lt_of_cell? w _ hx)]; exact hx
theorem RawsAt.at_ {w : World} {b : Nat} : ∀ (l : List RawP) (o i : Nat) (x : RawP), RawsAt w b o l -> l[i]? = some x -> RawAt w b (o + i * 3) x
 | [], _, _, _, _, h => by simp at h
 | y :: l, o, 0, x, hr, h => by
   rw [RawsAt] at hr
   obtain rfl : y = x := by simpa using h
   simpa using hr.1
 | y :: l, o, i + 1, x, hr, h => by
   rw [RawsAt] at hr
   have := RawsAt.at_ l (o + 3) i x hr.2 (by simpa using h)
   rw [show o + (i + 1) * 3 = o + 3 + i * 3 by omega]; exact this
theorem RawsAt.mk_ {w : World} {b : Nat} : ∀ (l : List RawP) (o : Nat), (∀ i x, l[i]? = some x -> RawAt w b (o + i * 3) x) -> RawsAt w b o l
 | [], _, _ => by rw [RawsAt]; trivial
 | y :: l, o, h => by
   rw [RawsAt]
   refine ⟨by simpa using h 0 y rfl, RawsAt.mk_ l (o + 3) fun i x hx => ?_⟩
   have := h (i + 1) x (by simpa using hx)
   rw [show o + (i + 1) * 3 = o + 3 + i * 3 by omega] at this; exact this
theorem RawAt.cells {w : World} {b o : Nat} {x : RawP} (h : RawAt w b o x) : ∃ v, CellsAt w b o [.int .i64 x.k, .int .i64 x.n, v] /\ (Lit.int .i64 x.k).wf = true /\ (Lit.int .i64 x.n).wf = true /\ RawL w v x.l := by
 obtain ⟨k, n, l⟩ := x
 rw [RawAt] at h
 obtain ⟨A, m, c, h1, h2, h3, h4, h5, h6, h7, h8⟩ := h
 exact ⟨_, h1, h2, h3, A, m, c, rfl, h4, h5, h6, h7, h8⟩
theorem RawL.get {w : World} {v : Value} {l : List RawP} (h : RawL w v l) {i : Nat} (hi : i < l.length) : ∃ g o m c u, v = .slice (some ⟨g, o, none⟩) m c /\ l.length = m /\ m <= c /\ c <= maxLen /\ CellsAt w g (o + i * 3) [.int .i64 (l[i]).k, .int .i64 (l[i]).n, u] /\ (Lit.int .i64 (l[i]).k).wf = true /\ (Lit.int .i64 (l[i]).n).wf = true /\ RawL w u (l[i]).l := by
 obtain ⟨A, m, c, rfl, h2, h3, h4, h5, h6⟩ := h
 obtain ⟨g, o, rfl, hr⟩ := h6 (by omega)
 obtain ⟨u, h7, h8, h9, h10⟩ := (RawsAt.at_ l o i l[i] hr (List.getElem?_eq_getElem hi)).cells
 exact ⟨g, o, m, c, u, rfl, h2, h3, h4, h7, h8, h9, h10⟩
section
variable {H : Type} {enc : TypeId × Value -> H} {w : World} {base : Nat} {spare : Nat -> Bool} {held : Bool}
theorem open_raws : ∀ (fuel : Nat) (cs : List Value) (x : DataW H × List MemPlace), DataW.trod enc Tryz.prog w base spare held fuel 22 cs = some x -> ∃ v l, cs = [v] /\ RawL w v l := by
 intro fuel
 induction fuel using Nat.strongRecOn with
 | _ fuel ih =>
   intro cs x h
   have cI : Tryz.prog.cellsOf 3 = 1 := by kernel_rfl
   have cL : Tryz.prog.cellsOf 22 = 1 := by kernel_rfl
   have cR : Tryz.prog.cellsOf 35 = 3 := by kernel_rfl
   rcases DataW.trod_slice Tryz.underlying22 h with ⟨rfl, -⟩ | ⟨a, len, cap, elems, rest, n, hn, rfl, -, -, hl, hm, hel, hi, -, -⟩
   ·exact ⟨_, [], rfl, none, 0, 0, rfl, rfl, Nat.le_refl _, Nat.zero_le _, fun _ => rfl, (fun h => by omega)⟩
   ·have hsp : 0 < len -> a.spot = none := by
     intro hp
     have h1 := hi 0 hp
     rw [List.getElem?_eq_getElem (by omega), Option.bind_eq_some_iff, cR] at h1
     obtain ⟨c3, hc, -⟩ := h1
     obtain ⟨_, hcl, hat⟩ := World.cells?_some hc
     have h0 := hat 0 (by omega)
     rw [List.getElem?_eq_getElem (by omega)] at h0
     have h0' : w.cell? a = some (c3[0]'(by omega)) := by simpa [Addr.add] using h0
     cases hs : a.spot with
     | none => rfl
     | some q =>
       unfold World.cell? at h0'
       split at h0'
       ·simp [hs] at h0'
       ·cases h0'
    have key : ∀ i, i < len -> ∃ y : RawP, a.spot = none /\ RawAt w a.block (a.off + i * 3) y := by
     intro i hil
     have h1 := hi i hil
     rw [List.getElem?_eq_getElem (by omega), Option.bind_eq_some_iff, cR] at h1
     obtain ⟨c3, hc, ht⟩ := h1
     obtain ⟨_, hcl, hat⟩ := World.cells?_some hc
     obtain ⟨ys, n', hn', -, -, hyl, hf⟩ := DataW.trod_struct Tryz.underlying35 ht
     match c3, hcl with
     | [u0, u1, u2], _ =>
       have f0 : DataW.trod enc Tryz.prog w base spare held n' 3 (([u0, u1, u2].drop 0).take (Tryz.prog.cellsOf 3)) = ys[0]? := hf 0 _ rfl
       have f1 : DataW.trod enc Tryz.prog w base spare held n' 3 (([u0, u1, u2].drop 1).take (Tryz.prog.cellsOf 3)) = ys[1]? := hf 1 _ rfl
       have f2 : DataW.trod enc Tryz.prog w base spare held n' 22 (([u0, u1, u2].drop 2).take (Tryz.prog.cellsOf 22)) = ys[2]? := hf 2 _ rfl
       have l3 : ys.length = 3 := hyl
       rw [cI] at f0 f1
       rw [cL] at f2
       simp only [List.drop_zero, List.drop_succ_cons, List.take_succ_cons, List.take_zero] at f0 f1 f2
       rw [List.getElem?_eq_getElem (by omega)] at f0 f1 f2
       obtain ⟨k, e0, -, w0⟩ := DataW.trod_int Tryz.underlying3 f0
       obtain ⟨n0, e1, -, w1⟩ := DataW.trod_int Tryz.underlying3 f1
       obtain ⟨v, l, e2, A, m, c, rfl, g2, g3, g4, g5, g6⟩ := ih n' (by omega) _ _ f2
       obtain rfl : u0 = .int .i64 k := by simpa using e0
       obtain rfl : u1 = .int .i64 n0 := by simpa using e1
       obtain rfl : u2 = .slice A m c := by simpa using e2
       refine ⟨.node k n0 l, hsp (by omega), ?_⟩
       rw [RawAt]
       refine ⟨A, m, c, fun j u hj => ?_, w0, w1, g2, g3, g4, g5, g6⟩
       have hj3 : j < 3 := by
        have := (List.getElem?_eq_some_iff.1 hj).1
        simpa using this
       have := hat j hj3
       rw [hj] at this
       rw [<- this]
       obtain ⟨b, o, q⟩ := a
       obtain rfl : q = none := hsp (by omega)
       rw [Addr.add_add, Addr.add_mid, Nat.add_assoc]
    have hch : ∃ f : Nat -> RawP, ∀ i, i < len -> a.spot = none /\ RawAt w a.block (a.off + i * 3) (f i) := by
     refine ⟨fun i => if h : i < len then (key i h).choose else .node 0 0 [], fun i h => ?_⟩
     simp only [dif_pos h]
     exact (key i h).choose_spec
    obtain ⟨f, hf⟩ := hch
    refine ⟨_, (List.range len).map f, rfl, some a, len, cap, rfl, by simp, hl, hm, (fun e => by cases e), fun hp => ?_⟩
    have hs := (hf 0 hp).1
    obtain ⟨b, o, q⟩ := a
    obtain rfl : q = none := hs
    refine ⟨b, o, rfl, RawsAt.mk_ _ _ fun i x hx => ?_⟩
    rw [List.getElem?_map] at hx
    by_cases hil : i < len
    ·rw [List.getElem?_range hil] at hx
     obtain rfl : f i = x := by simpa using hx
     exact (hf i hil).2
    ·rw [List.getElem?_eq_none (by simpa using hil)] at hx
     simp at hx
end
end Go.Proofs.YtfccnadbiglagaaGreat
namespace Go.Proofs.YtfccnadbiglagaaGreat
open Go Go.RowKit Go.Proofs
theorem wthN_eq (x n : Int) (hn : 0 < n) : ((wthN x n : Nat) : Int) = if x.tmod n < 0 then x.tmod n + n else x.tmod n := by
 have h1 := Int.tmod_lt_of_pos x hn
 have h2 : -n < x.tmod n := by
  have := Int.tmod_lt_of_pos (-x) hn
  rw [Int.neg_tmod] at this
  omega
 unfold wthN
 split <;> omega
theorem wth_any (x n : Int) (hn : 0 < n) (hn2 : n <= 1099511627776) (w : World) :
  Calls Tryz.prog 38 #[.int .i64 x, .int .i64 n] w fun e w' => e = .returned (.int .i64 (wthN x n : Nat)) /\ w = w' := by
  have h1 := Int.tmod_lt_of_pos x hn
  have h2 : -n < x.tmod n := by
   have := Int.tmod_lt_of_pos (-x) hn
   rw [Int.neg_tmod] at this
   omega
  have E := Lib.hid (wthN_eq x n hn)
  have hne : ¬ n = 0 := by omega
  go_enter Tryz.func38, Tryz.ntmps38
  by_cases hlt : x.tmod n < 0
  ·go_wp2_with fail
   go_ret
   exact ⟨by rw [E.out, if_pos hlt]; rfl, rfl⟩
  ·go_wp2_with fail
   go_ret
   exact ⟨by rw [E.out, if_neg (by omega)]; rfl, rfl⟩
def namesA : Array Value := #[.string ⟨#[97]⟩, .string ⟨#[118]⟩, .string ⟨#[100]⟩, .string ⟨#[115]⟩, .string ⟨#[119, 49]⟩, .string ⟨#[111, 116, 104, 101, 114]⟩]
theorem names_any (w : World) : Calls Tryz.prog 36 #[] w fun e w' => e = .returned (.slice (some ⟨w.heap.size, 0, none⟩) 6 6) /\ w' = w.alloc (.cells namesA 9) := by
 unfold namesA
 go_enter Tryz.func36, Tryz.ntmps36
 go_wp2_with fail
 go_ret
 exact ⟨rfl, rfl⟩
theorem foldR_le (f : Nat) (M : Nat) (hM : 30 <= M) (hs : ∀ l, 30 + 1 + sizeR f l <= M) : ∀ (l : List RawP) (n : Nat), n <= M -> foldR f n l <= M := by
 intro l
 induction l with
 | nil => intro n h; exact h
 | cons x l ih =>
   intro n h
   show foldR f (if n <= 30 then n + 1 + sizeR f x.l else n) l <= M
   refine ih _ ?_
   have := hs x.l
   split <;> omega
theorem sizeR_le : ∀ (f : Nat) (l : List RawP), sizeR f l <= 1000 + 31 * f := by
 intro f
 induction f with
 | zero => intro l; simp [sizeR]
 | succ f ih =>
   intro l
   rw [sizeR_succ]
   exact foldR_le f _ (by omega) (fun l => by have := ih l; omega) l 0 (by omega)
theorem foldR_take (f : Nat) (l : List RawP) (i : Nat) (hi : i < l.length) (n : Nat) : foldR f n (l.take (i + 1)) = if foldR f n (l.take i) <= 30 then foldR f n (l.take i) + 1 + sizeR f (l[i]).l else foldR f n (l.take i) := by
 rw [List.take_succ_eq_append_getElem hi]
 unfold foldR
 rw [List.foldl_append]
 rfl
theorem foldR_done (f : Nat) (l : List RawP) (i : Nat) (n : Nat) (h : 30 < foldR f n (l.take i)) : foldR f n l = foldR f n (l.take i) := by
 conv => lhs; rw [<- List.take_append_drop i l]
 unfold foldR at h ⊢
 rw [List.foldl_append]
 exact foldR_stop f _ _ h
theorem CellsAt.at3 {w : World} {b o : Nat} {x y z : Value} (h : CellsAt w b o [x, y, z]) : w.cell? ⟨b, o, none⟩ = some x /\ w.cell? ⟨b, o + 1, none⟩ = some y /\ w.cell? ⟨b, o + 2, none⟩ = some z := ⟨h 0 x rfl, h 1 y rfl, h 2 z rfl⟩
theorem size_any : ∀ (f : Nat) (l : List RawP) (w : World) (v : Value) (d : Int), d = 6 - (f : Int) -> f <= 6 -> RawL w v l ->
  Calls Tryz.prog 34 #[v, .int .i64 d] w fun e w' => e = .returned (.int .i64 (sizeR f l : Nat)) /\ w = w' := by
  intro f
  induction f with
  | zero =>
    intro l w v d hd _ h
    obtain rfl : d = 6 := by omega
    obtain ⟨A, m, c, rfl, -⟩ := h
    clear hd
    go_enter Tryz.func34, Tryz.ntmps34
    go_wp2_with fail
    go_ret
    exact ⟨rfl, rfl⟩
  | succ f ih =>
    intro l w v d hd hf h
    have h0 := h
    obtain ⟨A, m, c, rfl, hm, hmc, hc, hA, hr⟩ := h
    unfold maxLen at hc
    have hd1 : ¬ 5 < d := by omega
    have hd2 : d + 1 = 6 - (f : Int) := by omega
    have hd3 : -10 <= d /\ d <= 6 := by omega
    obtain ⟨hd4, hd5⟩ := hd3
    have IH := Lib.hid ih; have H0 := Lib.hid h0; have HD := Lib.hid hd2; have HM := Lib.hid hm
    clear ih h0 hd hd2 hr hm hA
    go_enter Tryz.func34, Tryz.ntmps34
    go_wp2_with fail
    go_loopg [5, 6] m (fun gk vn vi wr => ∃ (i n : Nat), vi = .int .i64 i /\ vn = .int .i64 n /\ gk = m - i /\ i <= m /\ Hid (n = foldR f 0 (l.take i)) /\ n <= 1300 /\ w = wr)
    case atStart => exact ⟨0, 0, rfl, rfl, rfl, Nat.zero_le _, Lib.hid rfl, by omega, rfl⟩
    case round =>
     obtain ⟨i, n, rfl, rfl, hgk, hi, HN, hn, rfl⟩ := hrel
     have HGK := Lib.hid hgk; clear hgk
     have i0 : (0 : Int) <= (i : Int) := Int.natCast_nonneg _
     have n0 : (0 : Int) <= (n : Int) := Int.natCast_nonneg _
     by_cases hlt : i < m
     ·have i1 : (i : Int) < (m : Int) := by omega
      by_cases h30 : n <= 30
      ·have n1 : (n : Int) <= 30 := by omega
       have hil : i < l.length := by rw [HM.out]; exact hlt
       obtain ⟨g, o, m', c', u, e, -, -, -, hcs, -, -, hu⟩ := H0.out.get hil
       injection e with e1 e2 e3
       subst e1; subst e2; subst e3
       have c2 := hcs.at3.2.2
       have hu0 := hu
       obtain ⟨A2, m2, c2', rfl, -⟩ := hu
       have hs := sizeR_le f (l[i]).l
       have hco := IH.out (l[i]).l w _ (d + 1) HD.out (by omega) hu0
       have hnx : n + 1 + sizeR f (l[i]).l = foldR f 0 (l.take (i + 1)) := by rw [foldR_take f l i hil, <- HN.out, if_pos h30]
       obtain ⟨z, hz⟩ : ∃ z, sizeR f (l[i]).l = z := ⟨_, rfl⟩
       rw [hz] at hco hnx hs
       have z0 : (0 : Int) <= (z : Int) := Int.natCast_nonneg _
       have HCO := Lib.hid hco; have HNX := Lib.hid hnx
       clear hco hnx hcs hu0 hz
       go_wp2_with fail
       refine HCO.out.mono ?_
       rintro e W ⟨rfl, rfl⟩
       go_wp2_with fail
       go_roundg (m - (i + 1))
       case measure => have := HGK.out; omega
       case rel => exact ⟨i + 1, n + 1 + z, by go_num, by go_num, rfl, hlt, HNX, by omega, rfl⟩
      ·have hfin : sizeR (f + 1) l = n := by rw [sizeR_succ, foldR_done f l i 0 (by rw [<- HN.out]; omega), HN.out]
       obtain ⟨V, hV⟩ : ∃ V : Int, (n : Int) = V := ⟨_, rfl⟩
       have n1 : (31 : Int) <= V := by omega
       have nb : decide (V <= 30) = false := by simp; omega
       have HFIN := Lib.hid (show ((sizeR (f + 1) l : Nat) : Int) = V by rw [hfin, hV])
       rw [hV]
       clear hfin h30 hV n0
       go_wp2_with fail
       go_ret
       exact ⟨by rw [HFIN.out]; rfl, rfl⟩
     ·have hil : i = m := by omega
      subst hil
      have hfin : sizeR (f + 1) l = n := by rw [sizeR_succ, HN.out, List.take_of_length_le (by rw [HM.out]; exact Nat.le_refl _)]
      have HFIN := Lib.hid hfin; clear hfin
      go_wp2_with fail
      go_ret
      exact ⟨by rw [HFIN.out]; rfl, rfl⟩
def fewB (l : List RawP) : Bool := decide (sizeR 6 l <= 30)
theorem few_any (l : List RawP) (w : World) (v : Value) (h : RawL w v l) :
  Calls Tryz.prog 14 #[v] w fun e w' => e = .returned (.bool (fewB l)) /\ w = w' := by
  have hs := size_any 6 l w v 0 (by omega) (by omega) h
  obtain ⟨A, m, c, rfl, -⟩ := h
  have hb := sizeR_le 6 l
  have e : fewB l = decide (((sizeR 6 l : Nat) : Int) <= 30) := by unfold fewB; rw [decide_eq_decide]; omega
  obtain ⟨z, hz⟩ : ∃ z, sizeR 6 l = z := ⟨_, rfl⟩
  rw [hz] at hs e
  have HS := Lib.hid hs; have HE := Lib.hid e; clear hs e hz hb
  go_enter Tryz.func14, Tryz.ntmps14
  go_wp2_with fail
  refine HS.out.mono ?_
  rintro e W ⟨rfl, rfl⟩
  go_wp2_with fail
  go_ret
  exact ⟨by rw [HE.out]; rfl, rfl⟩
end Go.Proofs.YtfccnadbiglagaaGreat
namespace Go.Proofs.YtfccnadbiglagaaGreat
open Go Go.RowKit Go.Proofs
abbrev put5 (W : World) (H : Nat) (a1 a2 a3 a4 a5 : Value) : World :=
 ((((W.setCell ⟨H, 0, none⟩ a1).setCell ⟨H, 1, none⟩ a2).setCell ⟨H, 2, none⟩ a3).setCell ⟨H, 3, none⟩ a4).setCell ⟨H, 4, none⟩ a5
abbrev put6 (W : World) (H : Nat) (a1 a2 a3 a4 a5 a6 : Value) : World := (put5 W H a1 a2 a3 a4 a5).setCell ⟨H, 5, none⟩ a6
theorem cell_far {W : World} {p : Addr} {u : Value} {g i : Nat} {x : Value} (h : W.cell? ⟨g, i, none⟩ = some x) (hne : g ≠ p.block) : (W.setCell p u).cell? ⟨g, i, none⟩ = some x := by
 have hb := Below.heap_setCell W p u g hne
 unfold World.cell? at h ⊢
 rw [hb]; exact h
theorem TreeV.far {r : Bool} {W : World} {S : Nat -> Prop} {v : Value} {t : Tree} (h : TreeV r W S v t) {p : Addr} (hp : ∀ g, S g -> g ≠ p.block) (u : Value) : TreeV r (W.setCell p u) S v t :=
 h.keep (fun _ h => h) fun g hg i x hx => cell_far hx (hp g hg)
theorem TreeV.put5_ {r : Bool} {W : World} {S : Nat -> Prop} {v : Value} {t : Tree} {H : Nat} (h : TreeV r W S v t) (hp : ∀ g, S g -> g ≠ H) (a1 a2 a3 a4 a5 : Value) : TreeV r (put5 W H a1 a2 a3 a4 a5) S v t :=
 ((((h.far (p := ⟨H, 0, none⟩) hp a1).far (p := ⟨H, 1, none⟩) hp a2).far (p := ⟨H, 2, none⟩) hp a3).far (p := ⟨H, 3, none⟩) hp a4).far (p := ⟨H, 4, none⟩) hp a5
theorem TreeV.put6_ {r : Bool} {W : World} {S : Nat -> Prop} {v : Value} {t : Tree} {H : Nat} (h : TreeV r W S v t) (hp : ∀ g, S g -> g ≠ H) (a1 a2 a3 a4 a5 a6 : Value) : TreeV r (put6 W H a1 a2 a3 a4 a5 a6) S v t :=
 (h.put5_ hp a1 a2 a3 a4 a5).far (p := ⟨H, 5, none⟩) hp a6
theorem below_put5 {B : Nat} {w W : World} (h : Below B w W) {H : Nat} (hH : B <= H) (a1 a2 a3 a4 a5 : Value) : Below B w (put5 W H a1 a2 a3 a4 a5) :=
 ((((h.setCell (p := ⟨H, 0, none⟩) hH a1).setCell (p := ⟨H, 1, none⟩) hH a2).setCell (p := ⟨H, 2, none⟩) hH a3).setCell (p := ⟨H, 3, none⟩) hH a4).setCell (p := ⟨H, 4, none⟩) hH a5
theorem below_put6 {B : Nat} {w W : World} (h : Below B w W) {H : Nat} (hH : B <= H) (a1 a2 a3 a4 a5 a6 : Value) : Below B w (put6 W H a1 a2 a3 a4 a5 a6) :=
 (below_put5 h hH a1 a2 a3 a4 a5).setCell (p := ⟨H, 5, none⟩) hH a6
theorem cellsAt_of_blk {W : World} {N : Nat} {T : TypeId} {cs : Array Value} (h : Blk W N T cs) (k : Nat) (l : List Value) (hl : ∀ i v, l[i]? = some v -> cs[k + i]? = some v) : CellsAt W N k l := fun i v hv => (Blk.cell h (k + i)).trans (hl i v hv)
theorem HeadV.lit5' {v : Value} (h : HeadV false v) : ∃ (k lo hi : Int) (s : ByteArray) (A : Option Addr) (n c : Nat), v = .agg #[.int .i64 k, .int .i64 lo, .int .i64 hi, .string s, .slice A n c] := by
 obtain ⟨k, lo, hi, wt, s, A, n, c, e⟩ := h
 exact ⟨k, lo, hi, s, A, n, c, e⟩
theorem HeadV.lit6' {v : Value} (h : HeadV true v) : ∃ (k lo hi wt : Int) (s : ByteArray) (A : Option Addr) (n c : Nat), v = .agg #[.int .i64 k, .int .i64 lo, .int .i64 hi, .int .i64 wt, .string s, .slice A n c] := by
 obtain ⟨k, lo, hi, wt, s, A, n, c, e⟩ := h
 exact ⟨k, lo, hi, wt, s, A, n, c, e⟩
theorem TreeV.one5 {W : World} {N : Nat} {T : TypeId} {S : Nat -> Prop} {k lo hi : Int} {nm : ByteArray} {A : Option Addr} {n c : Nat} {t : Tree} (K lo' hi' : Int) (h : Blk W N T #[.int .i64 k, .int .i64 lo, .int .i64 hi, .string nm, .slice A n c])
  (ht : TreeV false W S (.agg #[.int .i64 k, .int .i64 lo, .int .i64 hi, .string nm, .slice A n c]) t) (hN : S N) : TreeV false W S (.agg #[.int .i64 K, .int .i64 lo', .int .i64 hi', .string ⟨#[]⟩, .slice (some ⟨N, 0, none⟩) 1 1]) (.mk K lo' hi' 0 [] [t]) := by
  refine ⟨⟨#[]⟩, some ⟨N, 0, none⟩, 1, 1, rfl, rfl, fun _ => rfl, rfl, Nat.le_refl _, by unfold maxLen; omega, ⟨(fun e => by cases e), (fun _ _ _ e => by cases e; rfl)⟩, fun b' o' e _ => ?_⟩
  cases e
  refine ⟨hN, ?_⟩
  rw [TreesAt, TreesAt]
  exact ⟨TreeV.laid (k := k) (lo := lo) (hi := hi) (wt := 0) (s := nm) (A := A) (n := n) (c := c) ht (cellsAt_of_blk h 0 _ fun i v hv => by rw [<- hv]; simp [headC]), trivial⟩
theorem TreeV.two5 {W : World} {N : Nat} {T : TypeId} {S : Nat -> Prop} {k lo hi k1 lo1 hi1 : Int} {nm nm1 : ByteArray} {A A1 : Option Addr} {n c n1 c1 : Nat} {t t1 : Tree} (K : Int)
  (h : Blk W N T #[.int .i64 k, .int .i64 lo, .int .i64 hi, .string nm, .slice A n c, .int .i64 k1, .int .i64 lo1, .int .i64 hi1, .string nm1, .slice A1 n1 c1])
  (ht : TreeV false W S (.agg #[.int .i64 k, .int .i64 lo, .int .i64 hi, .string nm, .slice A n c]) t) (ht1 : TreeV false W S (.agg #[.int .i64 k1, .int .i64 lo1, .int .i64 hi1, .string nm1, .slice A1 n1 c1]) t1) (hN : S N) :
  TreeV false W S (.agg #[.int .i64 K, .int .i64 0, .int .i64 0, .string ⟨#[]⟩, .slice (some ⟨N, 0, none⟩) 2 2]) (.mk K 0 0 0 [] [t, t1]) := by
  refine ⟨⟨#[]⟩, some ⟨N, 0, none⟩, 2, 2, rfl, rfl, fun _ => rfl, rfl, Nat.le_refl _, by unfold maxLen; omega, ⟨(fun e => by cases e), (fun _ _ _ e => by cases e; rfl)⟩, fun b' o' e _ => ?_⟩
  cases e
  refine ⟨hN, ?_⟩
  rw [TreesAt, TreesAt, TreesAt]
  refine ⟨TreeV.laid (k := k) (lo := lo) (hi := hi) (wt := 0) (s := nm) (A := A) (n := n) (c := c) ht (cellsAt_of_blk h 0 _ fun i v hv => ?_), TreeV.laid (k := k1) (lo := lo1) (hi := hi1) (wt := 0) (s := nm1) (A := A1) (n := n1) (c := c1) ht1 (cellsAt_of_blk h 5 _ fun i v hv => ?_), trivial⟩
  ·have hi5 : i < 5 := by have := (List.getElem?_eq_some_iff.1 hv).1; simpa [headC] using this
   have : i = 0 \/ i = 1 \/ i = 2 \/ i = 3 \/ i = 4 := by omega
   rcases this with rfl | rfl | rfl | rfl | rfl <;> simpa [headC] using hv
  ·have hi5 : i < 5 := by have := (List.getElem?_eq_some_iff.1 hv).1; simpa [headC] using this
   have : i = 0 \/ i = 1 \/ i = 2 \/ i = 3 \/ i = 4 := by omega
   rcases this with rfl | rfl | rfl | rfl | rfl <;> simpa [headC] using hv
def NamesL (w : World) (v : Value) (D : List Bs) : Prop :=
 ∃ (A : Option Addr) (c : Nat), v = .slice A D.length c /\ D.length <= c /\ c <= maxLen /\ ∀ i, i < D.length -> ∃ g o, A = some ⟨g, o, none⟩ /\ ∃ s : ByteArray, s.data.toList = D.getD i [] /\ w.cell? ⟨g, o + i * 6, none⟩ = some (.string s)
theorem NamesL.below {w w' : World} {v : Value} {D : List Bs} (h : NamesL w v D) (hb : Below w.heap.size w w') : NamesL w' v D := by
 obtain ⟨A, c, h1, h2, h3, h4⟩ := h
 refine ⟨A, c, h1, h2, h3, fun i hi => ?_⟩
 obtain ⟨g, o, e, s, hs, hc⟩ := h4 i hi
 exact ⟨g, o, e, s, hs, by rw [hb.cell (p := ⟨g, o + i * 6, none⟩) (World.block_lt_of_cell? w _ hc)]; exact hc⟩
def MadeC (w : World) (p : Cls) (e : Ending) (w' : World) : Prop :=
 ∃ v, e = .returned v /\ HeadV false v /\ TreeV false w' (fun g => w.heap.size <= g) v p.tree /\ Below w.heap.size w w'
theorem MadeC.fin {w W : World} {p : Cls} {k lo hi : Int} {s : ByteArray} {A : Option Addr} {n c : Nat} (hb : Below w.heap.size w W) (ht : TreeV false W (fun g => w.heap.size < g) (.agg #[.int .i64 k, .int .i64 lo, .int .i64 hi, .string s, .slice A n c]) p.tree) :
  MadeC w p (.returned (.agg #[.int .i64 k, .int .i64 lo, .int .i64 hi, .string s, .slice A n c])) (put5 W w.heap.size (.int .i64 k) (.int .i64 lo) (.int .i64 hi) (.string s) (.slice A n c)) :=
  ⟨_, rfl, ⟨k, lo, hi, 0, s, A, n, c, rfl⟩, (ht.put5_ (fun g hg => Nat.ne_of_gt hg) _ _ _ _ _).keep (fun g hg => Nat.le_of_lt hg) (fun _ _ _ _ h => h), below_put5 hb (Nat.le_refl _) _ _ _ _ _⟩
theorem leaf5 {W : World} (S : Nat -> Prop) (k lo hi : Int) (s : ByteArray) : TreeV false W S (.agg #[.int .i64 k, .int .i64 lo, .int .i64 hi, .string s, .slice none 0 0]) (.mk k lo hi 0 s.data.toList []) := TreeV.leaf false W S k lo hi 0 s (fun _ => rfl)
theorem MadeC.leaf {w W : World} {p : Cls} {k lo hi : Int} {s : ByteArray} (hb : Below w.heap.size w W) (hp : p.tree = .mk k lo hi 0 s.data.toList []) :
  MadeC w p (.returned (.agg #[.int .i64 k, .int .i64 lo, .int .i64 hi, .string s, .slice none 0 0])) W :=
  ⟨_, rfl, ⟨k, lo, hi, 0, s, none, 0, 0, rfl⟩, by rw [hp]; exact leaf5 _ _ _ _ _, hb⟩
theorem ranged_any (lo hi : Nat) (w : World) : Calls Tryz.prog 35 #[.int .i64 lo, .int .i64 hi] w (MadeC w (.range lo hi)) := by
 go_enter Tryz.func35, Tryz.ntmps35
 go_wp2_with fail
 exact bodyPost_ret (v := .agg #[.int .i64 1, .int .i64 lo, .int .i64 hi, .string ⟨#[]⟩, .slice none 0 0]) (by simp [results, Tryz.results35, go_sem]) rfl (MadeC.leaf ((Below.refl _ _).alloc (Nat.le_refl _) _) rfl)
theorem wthN_nat (n m : Nat) : wthN (n : Int) (m : Int) = n % m := by
 unfold wthN
 have h : (n : Int).tmod (m : Int) = ((n % m : Nat) : Int) := by rw [Int.tmod_eq_emod_of_nonneg (Int.natCast_nonneg n)]; exact (Int.natCast_emod n m).symm
 rw [h, if_neg (by omega)]
 rfl
theorem class_low (n : Nat) (w : World) (A : Option Addr) (m c : Nat) (d : Int) (hd0 : 0 <= d) (hd4 : d <= 4) (hn : n <= 1099511627776) (hlow : n % 16 < 5 \/ 3 < d) :
  Calls Tryz.prog 37 #[.int .i64 n, .slice A m c, .int .i64 d] w (MadeC w (.range (n / 16 % 50 + 40) (n / 16 % 50 + 40 + n / 16 % 5))) := by
  obtain ⟨K, hK⟩ : ∃ K : Nat, n / 16 = K := ⟨_, rfl⟩
  have hK' : (n : Int) / 16 = (K : Int) := by omega
  obtain ⟨J, hJ⟩ : ∃ J : Nat, n % 16 = J := ⟨_, rfl⟩
  have hJ1 : J < 16 := by omega
  have hK1 : (K : Int) <= 1099511627776 := by omega
  have hK0 : (0 : Int) <= (K : Int) := by omega
  have wJ := fun w => wth_any (n : Int) 16 (by omega) (by omega) w
  rw [show ((16 : Int)) = ((16 : Nat) : Int) from rfl, wthN_nat, hJ] at wJ
  have n0 : (0 : Int) <= (n : Int) := by omega
  have n1 : (n : Int) <= 1099511627776 := by omega
  obtain ⟨Jv, hJv⟩ : ∃ Jv : Int, (J : Int) = Jv := ⟨_, rfl⟩
  rw [hJv] at wJ
  have j0 : (0 : Int) <= Jv := by omega
  obtain ⟨M, hM⟩ : ∃ M : Nat, K % 50 = M := ⟨_, rfl⟩
  obtain ⟨M5, hM5⟩ : ∃ M : Nat, K % 5 = M := ⟨_, rfl⟩
  have wM := fun w => wth_any (K : Int) 50 (by omega) (by omega) w
  rw [show ((50 : Int)) = ((50 : Nat) : Int) from rfl, wthN_nat, hM] at wM
  have hK5 : (K : Int) % 5 = (M5 : Int) := by omega
  have m0 : (0 : Int) <= (M : Int) := by omega
  have m1 : (M : Int) <= 50 := by omega
  have m50 : (0 : Int) <= (M5 : Int) := by omega
  have m51 : (M5 : Int) <= 5 := by omega
  rw [hK, hM, hM5]
  have hlow' : Jv < 5 \/ 3 < d := by omega
  have HWJ := Lib.hid wJ; have HWM := Lib.hid wM; have HK := Lib.hid hK'; have HK5 := Lib.hid hK5
  clear wJ wM hK' hK5 hK hJ hM hM5 hJ1 hJv hlow
  go_enter Tryz.func37, Tryz.ntmps37
  go_wp2_with fail
  refine (HWJ.out _).mono ?_
  rintro e W ⟨rfl, rfl⟩
  rw [HK.out]
  by_cases h5 : Jv < 5
  ·have b5 : decide (Jv < 5) = true := by simp; omega
   clear hlow'
   go_wp2_with fail
   refine (HWM.out _).mono ?_
   rintro e W ⟨rfl, rfl⟩
   go_wp2_with fail
   rw [HK5.out]
   exact bodyPost_ret (v := .agg #[.int .i64 1, .int .i64 ((M + 40 : Nat) : Int), .int .i64 ((M + 40 + M5 : Nat) : Int), .string ⟨#[]⟩, .slice none 0 0]) (by simp [results, Tryz.results37, go_sem]) rfl (MadeC.leaf ((Below.refl _ _).alloc (Nat.le_refl _) _) rfl)
  ·have b5 : decide (Jv < 5) = false := by simp; omega
   have d3 : 3 < d := by omega
   have b3 : decide (3 < d) = true := by simp; omega
   clear hlow'
   go_wp2_with fail
   refine (HWM.out _).mono ?_
   rintro e W ⟨rfl, rfl⟩
   go_wp2_with fail
   rw [HK5.out]
   exact bodyPost_ret (v := .agg #[.int .i64 1, .int .i64 ((M + 40 : Nat) : Int), .int .i64 ((M + 40 + M5 : Nat) : Int), .string ⟨#[]⟩, .slice none 0 0]) (by simp [results, Tryz.results37, go_sem]) rfl (MadeC.leaf ((Below.refl _ _).alloc (Nat.le_refl _) _) rfl)
theorem TreeV.al {r : Bool} {W : World} {S S' : Nat -> Prop} {v : Value} {t : Tree} (h : TreeV r W S v t) (hS : ∀ g, S g -> S' g) (o : Obj) : TreeV r (W.alloc o) S' v t :=
 h.keep hS fun g _ i x hx => by rw [World.cell?_alloc_past o _ _ (World.block_lt_of_cell? W _ hx)]; exact hx
theorem TreeV.bel {r : Bool} {W W' : World} {S S' : Nat -> Prop} {v : Value} {t : Tree} (h : TreeV r W S v t) (hS : ∀ g, S g -> S' g) (hb : Below W.heap.size W W') : TreeV r W' S' v t :=
 h.keep hS fun g _ i x hx => by rw [hb.cell (p := ⟨g, i, none⟩) (World.block_lt_of_cell? W _ hx)]; exact hx
theorem put5_alloc {W : World} {H : Nat} (hH : H < W.heap.size) (o : Obj) (a1 a2 a3 a4 a5 : Value) : put5 (W.alloc o) H a1 a2 a3 a4 a5 = (put5 W H a1 a2 a3 a4 a5).alloc o := by
 unfold put5
 rw [World.setCell_alloc_past o H 0 a1 hH, World.setCell_alloc_past o H 1 a2 (by simpa [World.setCell] using hH), World.setCell_alloc_past o H 2 a3 (by simpa [World.setCell] using hH), World.setCell_alloc_past o H 3 a4 (by simpa [World.setCell] using hH), World.setCell_alloc_past o H 4 a5 (by simpa [World.setCell] using hH)]
theorem range_is {p : Cls} {lo hi : Nat} (a : Int) {y : Int} (hp : p = .range lo hi) (ha : (lo : Int) = a) (h : (hi : Int) = y) : p.tree = .mk 1 a y 0 [] [] := by rw [hp, <- ha, <- h]; rfl
theorem class_any (D : List Bs) (hD0 : 0 < D.length) (hD1 : D.length <= 1000) : ∀ (f n : Nat) (w : World) (v : Value) (d : Int), d = 4 - (f : Int) -> f <= 4 -> n <= 1099511627776 -> NamesL w v D ->
  Calls Tryz.prog 37 #[.int .i64 n, v, .int .i64 d] w (MadeC w (clsOf D f n)) := by
  intro f
  induction f with
  | zero =>
    intro n w v d hd _ hn hN
    obtain ⟨A, c, rfl, hDc, hc, hcell⟩ := hN
    unfold clsOf
    exact class_low n w A _ c d (by omega) (by omega) hn (.inr (by omega))
  | succ f ih =>
    intro n w v d hd hf hn hN
    have hN0 := hN
    obtain ⟨A, c, rfl, hDc, hc, hcell⟩ := hN
    by_cases h5 : n % 16 < 5
    ·unfold clsOf
     rw [if_pos h5]
     exact class_low n w A _ c d (by omega) (by omega) hn (.inl h5)
    have hcl := clsOf.eq_2 D n f
    rw [if_neg h5, show f.succ = f + 1 from rfl] at hcl
    obtain ⟨K, hK⟩ : ∃ K : Nat, n / 16 = K := ⟨_, rfl⟩
    have hK' : (n : Int) / 16 = (K : Int) := by omega
    obtain ⟨J, hJ⟩ : ∃ J : Nat, n % 16 = J := ⟨_, rfl⟩
    have hJ1 : J < 16 := by omega
    have hK1 : (K : Int) <= 1099511627776 := by omega
    have hK0 : (0 : Int) <= (K : Int) := by omega
    have wJ := fun w => wth_any (n : Int) 16 (by omega) (by omega) w
    rw [show ((16 : Int)) = ((16 : Nat) : Int) from rfl, wthN_nat, hJ] at wJ
    have n0 : (0 : Int) <= (n : Int) := by omega
    have n1 : (n : Int) <= 1099511627776 := by omega
    obtain ⟨Jv, hJv⟩ : ∃ Jv : Int, (J : Int) = Jv := ⟨_, rfl⟩
    rw [hJv] at wJ
    have j0 : (0 : Int) <= Jv := by omega
    have ihd : d + 1 = 4 - (f : Int) := by omega
    have d0 : (0 : Int) <= d := by omega
    have d3 : d <= 3 := by omega
    have b3 : decide (3 < d) = false := by simp; omega
    have b5 : decide (Jv < 5) = false := by simp; omega
    have h5' : 5 <= Jv := by omega
    rw [hK, hJ] at hcl
    unfold maxLen at hc
    obtain ⟨m, hm⟩ : ∃ m, D.length = m := ⟨_, rfl⟩
    rw [hm] at hcell hDc hD0 hD1 hcl ⊢
    have hm0 : (0 : Int) < (m : Int) := by omega
    have hm1 : (m : Int) <= 1000 := by omega
    have HM := Lib.hid hm
    have HWJ := Lib.hid wJ; have HK := Lib.hid hK'; have HN := Lib.hid hN0; have IH := Lib.hid ih; have HCL := Lib.hid hcl; have HCE := Lib.hid hcell; have HD := Lib.hid ihd; have HJ := Lib.hid hJv; have HK16 := Lib.hid hK
    clear wJ hK' hN0 ih hcl hcell ihd hd hK hJ h5 hJv hm
    go_enter Tryz.func37, Tryz.ntmps37
    go_wp2_with fail
    refine (HWJ.out _).mono ?_
    rintro e W ⟨rfl, rfl⟩
    rw [HK.out]
    by_cases h6 : Jv < 6
    ·have b6 : decide (Jv < 6) = true := by simp; omega
     have wM := fun w => wth_any (K : Int) 1114112 (by omega) (by omega) w
     obtain ⟨M, hM⟩ : ∃ M : Nat, K % 1114112 = M := ⟨_, rfl⟩
     obtain ⟨M9, hM9⟩ : ∃ M : Nat, K % 9 = M := ⟨_, rfl⟩
     rw [show ((1114112 : Int)) = ((1114112 : Nat) : Int) from rfl, wthN_nat, hM] at wM
     have hc6 := HCL.out
     rw [if_pos (by have := HJ.out; omega), hM, hM9] at hc6
     have hK9 : (K : Int) % 9 = (M9 : Int) := by omega
     have m0 : (0 : Int) <= (M : Int) := by omega
     have m1 : (M : Int) <= 1114112 := by omega
     have m90 : (0 : Int) <= (M9 : Int) := by omega
     have m91 : (M9 : Int) <= 9 := by omega
     have HWM := Lib.hid wM; have HK9 := Lib.hid hK9; have HC6 := Lib.hid hc6
     clear wM hK9 hc6 hM hM9
     go_wp2_with fail
     refine (HWM.out _).mono ?_
     rintro e W ⟨rfl, rfl⟩
     by_cases hmn : M + M9 <= 1114111
     ·have q1 : (M : Int) + (K : Int) % 9 <= 1114111 := by have := HK9.out; omega
      have q2 : min ((M : Int) + (K : Int) % 9) 1114111 = (M : Int) + (K : Int) % 9 := by omega
      go_wp2_with fail
      have hk := HK9.out
      rw [hk]
      exact bodyPost_ret (v := .agg #[.int .i64 1, .int .i64 (M : Int), .int .i64 ((M : Int) + (M9 : Int)), .string ⟨#[]⟩, .slice none 0 0]) (by simp [results, Tryz.results37, go_sem]) rfl (MadeC.leaf ((Below.refl _ _).alloc (Nat.le_refl _) _) (range_is _ HC6.out rfl (by omega)))
     ·have q1 : 1114111 < (M : Int) + (K : Int) % 9 := by have := HK9.out; omega
      have q2 : min ((M : Int) + (K : Int) % 9) 1114111 = 1114111 := by omega
      go_wp2_with fail
      exact bodyPost_ret (v := .agg #[.int .i64 1, .int .i64 (M : Int), .int .i64 1114111, .string ⟨#[]⟩, .slice none 0 0]) (by simp [results, Tryz.results37, go_sem]) rfl (MadeC.leaf ((Below.refl _ _).alloc (Nat.le_refl _) _) (range_is _ HC6.out rfl (by omega)))
    ·have b6 : decide (Jv < 6) = false := by simp; omega
     have h6' : 6 <= Jv := by omega
     have hc6 := HCL.out
     rw [if_neg (by have := HJ.out; omega)] at hc6
     clear HCL h6
     by_cases h8 : Jv < 8
     ·have b8 : decide (Jv < 8) = true := by simp; omega
      rw [if_pos (by have := HJ.out; omega)] at hc6
      obtain ⟨M, hM⟩ : ∃ M : Nat, K % m = M := ⟨_, rfl⟩
      have hMm : M < m := by rw [<- hM]; exact Nat.mod_lt _ (by omega)
      have wM := fun w => wth_any (K : Int) (m : Int) (by omega) (by omega) w
      rw [wthN_nat, hM] at wM
      rw [hM] at hc6
      obtain ⟨g, o, rfl, s, hs, hcs⟩ := HCE.out M hMm
      rw [<- hs] at hc6
      have M0 : (0 : Int) <= (M : Int) := by omega
      have M1 : (M : Int) < (m : Int) := by omega
      have HWM := Lib.hid wM; have HC6 := Lib.hid hc6
      have hcs' : (w.alloc (.cells #[.int .i64 0, .int .i64 0, .int .i64 0, .string ⟨#[]⟩, .slice none 0 0] 70)).cell? ⟨g, o + M * 6, none⟩ = some (.string s) := by
       rw [World.cell?_alloc_past _ _ _ (World.block_lt_of_cell? w _ hcs)]; exact hcs
      clear wM hc6 hM hs HCE HN IH
      go_wp2_with fail
      refine (HWM.out _).mono ?_
      rintro e W ⟨rfl, rfl⟩
      go_wp2_with fail
      exact bodyPost_ret (v := .agg #[.int .i64 2, .int .i64 0, .int .i64 0, .string s, .slice none 0 0]) (by simp [results, Tryz.results37, go_sem]) rfl (MadeC.leaf ((Below.refl _ _).alloc (Nat.le_refl _) _) (by rw [HC6.out]; rfl))
     ·have b8 : decide (Jv < 8) = false := by simp; omega
      have h8' : 8 <= Jv := by omega
      rw [if_neg (by have := HJ.out; omega)] at hc6
      clear HCE h8
      by_cases h9 : Jv < 9
      ·have b9 : decide (Jv < 9) = true := by simp; omega
       rw [if_pos (by have := HJ.out; omega)] at hc6
       have HC6 := Lib.hid hc6
       clear hc6
       go_wp2_with fail
       exact bodyPost_ret (v := .agg #[.int .i64 3, .int .i64 0, .int .i64 0, .string ⟨#[]⟩, .slice none 0 0]) (by simp [results, Tryz.results37, go_sem]) rfl (MadeC.leaf ((Below.refl _ _).alloc (Nat.le_refl _) _) (by rw [HC6.out]; rfl))
      ·have b9 : decide (Jv < 9) = false := by simp; omega
       have h9' : 9 <= Jv := by omega
       rw [if_neg (by have := HJ.out; omega)] at hc6
       have hb0 : Below w.heap.size w (w.alloc (.cells #[.int .i64 0, .int .i64 0, .int .i64 0, .string ⟨#[]⟩, .slice none 0 0] 70)) := (Below.refl _ _).alloc (Nat.le_refl _) _
       have hx0 := Blk.new w 70 #[.int .i64 0, .int .i64 0, .int .i64 0, .string ⟨#[]⟩, .slice none 0 0]
       have hz0 : (w.alloc (.cells #[.int .i64 0, .int .i64 0, .int .i64 0, .string ⟨#[]⟩, .slice none 0 0] 70)).heap.size = w.heap.size + 1 := by simp
       have hn0 := HN.out.below hb0
       by_cases h10 : Jv < 10
       ·have b10 : decide (Jv < 10) = true := by simp; omega
        rw [if_pos (by have := HJ.out; omega)] at hc6
        have hco := IH.out K _ _ (d + 1) HD.out (by omega) (by omega) hn0
        rw [HM.out] at hco
        have HCO := Lib.hid hco; have HC6 := Lib.hid hc6; have HB0 := Lib.hid hb0; have HX0 := Lib.hid hx0; have HZ0 := Lib.hid hz0
        clear hco hc6 hb0 hx0 hz0 hn0 IH HN
        go_wp2_with fail
        refine HCO.out.mono ?_
        rintro e w2 ⟨v2, rfl, hh, ht, hb2⟩
        obtain ⟨k, lo, hi, nm, A2, n2, c2, rfl⟩ := hh.lit5'
        have hx2 := Blk.below HX0.out hb2 HX0.out.lt
        have r0 := Blk.cell hx2 0; have r1 := Blk.cell hx2 1; have r2 := Blk.cell hx2 2; have r3 := Blk.cell hx2 3; have r4 := Blk.cell hx2 4
        simp only [List.getElem?_toArray, List.getElem?_cons_zero, List.getElem?_cons_succ] at r0 r1 r2 r3 r4
        have fr := fun i => Blk.frozen hx2 i
        have hlt : w.heap.size < w2.heap.size := hx2.lt
        rw [HZ0.out] at ht
        have hb := HB0.out.trans (hb2.mono HB0.out.size)
        have hfin := MadeC.fin (w := w) (W := w2.alloc (.cells #[.int .i64 k, .int .i64 lo, .int .i64 hi, .string nm, .slice A2 n2 c2] 70)) (p := .not_ (clsOf D f K)) (k := 4) (lo := 0) (hi := 0) (s := ⟨#[]⟩) (A := some ⟨w2.heap.size, 0, none⟩) (n := 1) (c := 1) (hb.alloc hb.size _)
         (TreeV.one5 4 0 0 (Blk.new w2 _ _) (ht.al (fun g hg => by omega) _) hlt)
        rw [put5_alloc hlt, <- HC6.out] at hfin
        have HF := Lib.hid hfin
        clear hfin hb hx2 hb2 ht HB0 HX0 HZ0 hh
        go_wp2_with fail
        exact bodyPost_ret (v := .agg #[.int .i64 4, .int .i64 0, .int .i64 0, .string ⟨#[]⟩, .slice (some ⟨w2.heap.size, 0, none⟩) 1 1]) (by simp [results, Tryz.results37, go_sem, World.cell?_alloc_past, hlt, r0, r1, r2, r3, r4]) rfl HF.out
       ·have b10 : decide (Jv < 10) = false := by simp; omega
        have h10' : 10 <= Jv := by omega
        rw [if_neg (by have := HJ.out; omega)] at hc6
        obtain ⟨K3, hK3⟩ : ∃ x : Nat, K / 3 = x := ⟨_, rfl⟩
        obtain ⟨K48, hK48⟩ : ∃ x : Nat, K / 48 = x := ⟨_, rfl⟩
        have e3 : (K : Int) / 3 = (K3 : Int) := by omega
        have e48 : (K : Int) / 48 = (K48 : Int) := by omega
        rw [hK3, hK48] at hc6
        have hco := IH.out K3 _ _ (d + 1) HD.out (by omega) (by omega) hn0
        have hcp := fun W (hW : Below w.heap.size w W) => IH.out K48 W _ (d + 1) HD.out (by omega) (by omega) (HN.out.below hW)
        rw [HM.out] at hco hcp
        have E3 := Lib.hid e3; have E48 := Lib.hid e48
        have HCO := Lib.hid hco; have HCP := Lib.hid hcp; have HC6 := Lib.hid hc6; have HB0 := Lib.hid hb0; have HX0 := Lib.hid hx0; have HZ0 := Lib.hid hz0
        clear hco hcp hc6 hb0 hx0 hz0 hn0 IH HN e3 e48
        go_wp2_with fail
        rw [E3.out]
        refine HCO.out.mono ?_
        rintro e w2 ⟨v2, rfl, hh, ht, hb2⟩
        obtain ⟨k, lo, hi, nm, A2, n2, c2, rfl⟩ := hh.lit5'
        have hx2 := Blk.below HX0.out hb2 HX0.out.lt
        rw [HZ0.out] at ht
        have hb := HB0.out.trans (hb2.mono HB0.out.size)
        have HCQ := Lib.hid (HCP.out w2 hb); have HX2 := Lib.hid hx2; have HT := Lib.hid ht; have HB := Lib.hid hb
        clear HCO HCP hb2 hh hx2 ht hb
        go_wp2_with fail
        rw [E48.out]
        refine HCQ.out.mono ?_
        rintro e w3 ⟨v3, rfl, hh, ht3, hb3⟩
        obtain ⟨k1, lo1, hi1, nm1, A3, n3, c3, rfl⟩ := hh.lit5'
        have hx3 := Blk.below HX2.out hb3 HX2.out.lt
        have r0 := Blk.cell hx3 0; have r1 := Blk.cell hx3 1; have r2 := Blk.cell hx3 2; have r3 := Blk.cell hx3 3; have r4 := Blk.cell hx3 4
        simp only [List.getElem?_toArray, List.getElem?_cons_zero, List.getElem?_cons_succ] at r0 r1 r2 r3 r4
        have fr := fun i => Blk.frozen hx3 i
        have hlt : w.heap.size < w3.heap.size := hx3.lt
        have hlt2 : w.heap.size < w2.heap.size := HX2.out.lt
        have hb := HB.out.trans (hb3.mono HB.out.size)
        have ht2 := HT.out.bel (S' := fun g => w.heap.size < g) (fun g hg => by omega) hb3
        have hK3r : K % 3 = 0 \/ K % 3 = 1 \/ K % 3 = 2 := by omega
        have hfin : ∀ (p : Cls) (q : Int), p.tree = .mk q 0 0 0 [] [(clsOf D f K3).tree, (clsOf D f K48).tree] -> MadeC w p (.returned (.agg #[.int .i64 q, .int .i64 0, .int .i64 0, .string ⟨#[]⟩, .slice (some ⟨w3.heap.size, 0, none⟩) 2 2])) ((put5 w3 w.heap.size (.int .i64 q) (.int .i64 0) (.int .i64 0) (.string ⟨#[]⟩) (.slice (some ⟨w3.heap.size, 0, none⟩) 2 2)).alloc (.cells #[.int .i64 k, .int .i64 lo, .int .i64 hi, .string nm, .slice A2 n2 c2, .int .i64 k1, .int .i64 lo1, .int .i64 hi1, .string nm1, .slice A3 n3 c3] 70)) := by
         intro p q hp
         rw [<- put5_alloc hlt]
         refine MadeC.fin (hb.alloc hb.size _) ?_
         rw [hp]
         exact TreeV.two5 q (Blk.new w3 _ _) (ht2.al (fun g hg => hg) _) (ht3.al (fun g hg => by omega) _) hlt
        have HF := Lib.hid hfin
        clear hfin hb hx3 hb3 ht3 ht2 HB HX0 HX2 HZ0 hh HT HCQ
        rcases hK3r with h | h | h
        ·have e5 : (K : Int) % 3 = 0 := by omega
         have hc7 := HC6.out
         rw [if_pos h] at hc7
         have HC7 := Lib.hid hc7
         clear hc7 h HC6
         go_wp2_with fail
         exact bodyPost_ret (v := .agg #[.int .i64 5, .int .i64 0, .int .i64 0, .string ⟨#[]⟩, .slice (some ⟨w3.heap.size, 0, none⟩) 2 2]) (by simp [results, Tryz.results37, go_sem, World.cell?_alloc_past, hlt, r0, r1, r2, r3, r4]) rfl (HF.out _ 5 (by rw [HC7.out]; rfl))
        ·have e5 : (K : Int) % 3 = 1 := by omega
         have hc7 := HC6.out
         rw [if_neg (by omega), if_pos h] at hc7
         have HC7 := Lib.hid hc7
         clear hc7 h HC6
         go_wp2_with fail
         exact bodyPost_ret (v := .agg #[.int .i64 6, .int .i64 0, .int .i64 0, .string ⟨#[]⟩, .slice (some ⟨w3.heap.size, 0, none⟩) 2 2]) (by simp [results, Tryz.results37, go_sem, World.cell?_alloc_past, hlt, r0, r1, r2, r3, r4]) rfl (HF.out _ 6 (by rw [HC7.out]; rfl))
        ·have e5 : (K : Int) % 3 = 2 := by omega
         have hc7 := HC6.out
         rw [if_neg (by omega), if_neg (by omega)] at hc7
         have HC7 := Lib.hid hc7
         clear hc7 h HC6
         go_wp2_with fail
         exact bodyPost_ret (v := .agg #[.int .i64 7, .int .i64 0, .int .i64 0, .string ⟨#[]⟩, .slice (some ⟨w3.heap.size, 0, none⟩) 2 2]) (by simp [results, Tryz.results37, go_sem, World.cell?_alloc_past, hlt, r0, r1, r2, r3, r4]) rfl (HF.out _ 7 (by rw [HC7.out]; rfl))
end Go.Proofs.YtfccnadbiglagaaGreat
