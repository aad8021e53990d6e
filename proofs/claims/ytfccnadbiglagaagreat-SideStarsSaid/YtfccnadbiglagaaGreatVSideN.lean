/- Contract of the maker's sets by their names. slices.Backward over pieces: what it hands back, walked. -/
import Derived.Test.YtfccnadbiglagaaGreatVSideI
import Derived.Test.YtfccnadbiglagaaGreatVSynA
import Derived.RangeFuncNested
import Derived.RangeFuncBound
import Derived.RangeFuncCalls
import Derived.RangeFuncLeaves
import Derived.Shelf.Abstract
import Derived.Shelf.RegionOpen
import Derived.WalkKit
import Derived.OwnWalkIn
import Derived.TacticsInMore
import Derived.LoopNIn
import Derived.LoopIn
set_option linter.unusedVariables false
set_option linter.unusedSimpArgs false
set_option maxRecDepth 100000
set_option maxHeartbeats 8000000
namespace Go.Proofs.YtfccnadbiglagaaGreat
open Go Go.RowKit Go.Proofs
theorem spred_any (w : World) (q : Nat) (s t : ByteArray) (y1 y2 y3 : Int) (y4 : ByteArray) (y5 : Option Addr) (y6 y7 : Nat) (hq : w.cell? ⟨q, 0, none⟩ = some (.string t)) :
  Calls Tryz.prog 104 #[.agg #[.string s, .int .i64 y1, .int .i64 y2, .int .i64 y3, .string y4, .slice y5 y6 y7], .pointer (some ⟨q, 0, none⟩)] w fun e w' => e = .returned (.bool (s.toList == t.toList)) /\ Below w.heap.size w w' := by
  have hlt := World.block_lt_of_cell? w _ hq
  go_enter Tryz.func104, Tryz.ntmps104
  go_wp2_with fail
  go_ret
  exact ⟨rfl, (Below.refl _ _).alloc (Nat.le_refl _) _⟩
theorem sindexF_any (w : World) (S : Nat -> Prop) (v : Value) (D : List (List UInt8)) (q : Nat) (t : ByteArray) (h : Names w S v D) (hn : D.length <= 1000) (hq : w.cell? ⟨q, 0, none⟩ = some (.string t)) :
  Calls Tryz.prog 103 #[v, .func (.func 104) #[] #[.pointer (some ⟨q, 0, none⟩)]] w fun e w' => e = .returned (.int .i64 (ixN D t.data.toList)) /\ Below w.heap.size w w' := by
  have hlt := World.block_lt_of_cell? w _ hq
  obtain ⟨A, c, rfl, h1, h2, h3, h4⟩ := h
  obtain ⟨n, hnn⟩ : ∃ n, D.length = n := ⟨_, rfl⟩
  rw [hnn] at h1 h4 hn ⊢
  have H4 := Lib.hid h4; have H3 := Lib.hid h3; clear h3 h4
  have HN := Lib.hid hnn; clear hnn
  unfold maxLen at h2
  go_enter Tryz.func103, Tryz.ntmps103
  go_wp2_with fail
  go_loopg [8] n (fun gk v8 wr => ∃ k : Nat, v8 = .int .i64 k /\ gk = n - k /\ k <= n /\ Hid (∀ i, i < k -> D.getD i [] ≠ t.data.toList) /\ Hid (Below w.heap.size w wr))
  case atStart => exact ⟨0, rfl, rfl, Nat.zero_le _, Lib.hid (fun i hi => absurd hi (by omega)), Lib.hid (Below.refl _ _)⟩
  case round =>
   obtain ⟨k, rfl, hgk, hk, HK, HB⟩ := hrel
   have HGK := Lib.hid hgk; clear hgk
   have i0 : (0 : Int) <= (k : Int) := Int.natCast_nonneg _
   by_cases hlt2 : k < n
   ·obtain ⟨b, o, rfl, hSb, hbl, s, y1, y2, y3, y4, y5, y6, y7, e0, g0, g1, g2, g3, g4, g5⟩ := H4.out k hlt2
    obtain ⟨hcc, hff⟩ := bcell HB.out
    rw [<- hcc b _ hbl] at g0 g1 g2 g3 g4 g5
    have hq' : wr.cell? ⟨q, 0, none⟩ = some (.string t) := by rw [hcc q 0 hlt]; exact hq
    have hp := fun W hW => spred_any W q s t y1 y2 y3 y4 y5 y6 y7 hW
    have E0 := Lib.hid e0; clear e0 hcc hff
    have i1 : (k : Int) < (n : Int) := by omega
    have i2 : (n : Int) <= 1000 := by omega
    by_cases hs : D.getD k [] = t.data.toList
    ·have hb : (s.toList == t.toList) = true := by rw [ByteArray.toList_eq, ByteArray.toList_eq, E0.out, hs]; simp
     have hix : ixN D t.data.toList = k := by
      have hkd : k < D.length := by rw [HN.out]; exact hlt2
      have := ixN_drop D t.data.toList k (by omega) HK.out
      rw [this, List.drop_eq_getElem_cons hkd]
      have e : D[k] = t.data.toList := by simpa [List.getD, List.getElem?_eq_getElem hkd] using hs
      simp [ixN, e]
     rw [hb] at hp
     have HIX := Lib.hid hix; clear hix hs hb
     go_wp2_with (go_at_call 104; refine (hp _ hq').mono ?_; rintro e w2 ⟨rfl, hb2⟩)
     go_ret
     exact ⟨by rw [HIX.out]; rfl, HB.out.trans (hb2.mono HB.out.size)⟩
    ·have hb : (s.toList == t.toList) = false := by rw [ByteArray.toList_eq, ByteArray.toList_eq, E0.out]; simpa using hs
     rw [hb] at hp
     have HS := Lib.hid hs; clear hs hb
     go_wp2_with (go_at_call 104; refine (hp _ hq').mono ?_; rintro e w2 ⟨rfl, hb2⟩)
     go_roundg (n - (k + 1))
     case measure => have := HGK.out; omega
     case rel => exact ⟨k + 1, by go_num, rfl, hlt2, Lib.hid (fun i hi => by
      by_cases hik : i = k
      ·rw [hik]; exact HS.out
      ·exact HK.out i (by omega)), Lib.hid (HB.out.trans (hb2.mono HB.out.size))⟩
   ·have hkn : k = n := by omega
    subst hkn
    have hix : ixN D t.data.toList = -1 := by
     have := ixN_drop D t.data.toList k (by rw [HN.out]; exact Nat.le_refl _) HK.out
     rw [this, List.drop_eq_nil_of_le (by rw [HN.out]; exact Nat.le_refl _)]; rfl
    have HIX := Lib.hid hix; clear hix
    go_wp2_with fail
    go_ret
    exact ⟨by rw [HIX.out]; rfl, HB.out⟩
theorem DoorsV.low {w : World} {C : Nat} {S : Nat -> Prop} {v : Value} {l : List (Int × Int)} (h : DoorsV w (fun g => C <= g /\ S g) v l) {p : Addr} (hp : p.block < C) (u : Value) : DoorsV (w.setCell p u) (fun g => C <= g /\ S g) v l :=
 h.keep (fun _ h _ => h) (fun g hg _ i x hx => by rw [cell_of_heap (Below.heap_setCell w p u g (by omega))]; exact hx)
theorem named_any {w : World} {B T b N : Nat} {sv : Value} {S : List Int} {cv : Value} {g0 o0 cc : Nat} {R : Nat -> Nat} {dv rv : Value} {M : Mat} (h : MkAt w B T b N sv S cv g0 o0 cc R dv rv M) {D : List Bs} {SN : Nat -> Prop} (hD : Names w SN dv D) (hn : D.length <= 1000) (t : ByteArray) (hS : S.length < N) :
  Calls Tryz.prog 66 #[.pointer (some ⟨b, 0, none⟩), .string t] w fun e w' => ∃ v sv', e = .returned v /\ FrM B T w w' sv sv' /\
   (0 <= ixN D t.data.toList /\ PieceV w' (fun g => w.heap.size <= g /\ Left_ T sv' g) v [((S.length : Nat), 0)] [((S.length : Nat), 0)] 1152921504606846976 /\ MkAt w' B T b N sv' (S ++ [ixN D t.data.toList]) cv g0 o0 cc R dv rv M \/
    ixN D t.data.toList = -1 /\ PieceV w' (fun g => w.heap.size <= g /\ Left_ T sv' g) v [] [] 1152921504606846976 /\ MkAt w' B T b N sv' (S ++ [-1]) cv g0 o0 cc R dv rv M) := by
  obtain ⟨W0, hW0⟩ : ∃ W0, (w.alloc (.cells #[.string t] 9)).alloc (.cells #[.slice none 0 0, .slice none 0 0, .int .i64 0] 87) = W0 := ⟨_, rfl⟩
  have hb0 : Below w.heap.size w W0 := by rw [<- hW0]; exact ((Below.refl _ _).alloc (Nat.le_refl _) _).alloc (by simp) _
  have hx0 : Blk W0 w.heap.size 9 #[.string t] := by rw [<- hW0]; exact Blk.alloc (Blk.new _ _ _) _
  have hz0 : W0.heap.size = w.heap.size + 2 := by rw [<- hW0]; simp
  have hm0 := h.bel hb0
  have c2 : W0.cell? ⟨b, 2, none⟩ = some dv := Blk.cell hm0.box 2
  have hname : Names W0 (fun _ => True) dv D := hD.keep (fun _ _ => trivial) (fun g _ i x hx => bel_q hb0 hx)
  have hix := sindexF_any W0 (fun _ => True) dv D w.heap.size t hname hn (Blk.cell hx0 0)
  have htop := h.top
  have hB := BB h.bB h.top
  have hx1 : Blk W0 (w.heap.size + 1) 87 #[.slice none 0 0, .slice none 0 0, .int .i64 0] := by
   rw [<- hW0]
   have := Blk.new (w.alloc (.cells #[.string t] 9)) 87 #[.slice none 0 0, .slice none 0 0, .int .i64 0]
   rwa [World.size_alloc] at this
  have hfr0 : FrM B T w W0 sv sv := FrM.quiet hb0 htop hB
  have ho0 : ∀ G, w.heap.size <= G -> sv.ownBlock ≠ some G := fun G hG e => by have := (h.sets.lt _ e).2; omega
  rw [<- hW0] at c2
  obtain ⟨n, hnS⟩ : ∃ n, S.length = n := ⟨_, rfl⟩
  obtain ⟨z, hz⟩ : ∃ z, ixN D t.data.toList = z := ⟨_, rfl⟩
  have hzl : -1 <= z /\ z < 1000 := by have := ixN_ge D t.data.toList; have := ixN_lt D t.data.toList; omega
  rw [hz] at hix ⊢
  have hpos := fun W hW => pos_any (w := W) (sv := sv) (hm0.bel hW) (-1) hS
  have hone := fun W hW => one_any (w := W) (sv := sv) (hm0.bel hW) z hS
  rw [hnS] at hpos hone ⊢
  have HIX := Lib.hid hix; have HX1 := Lib.hid hx1; have HF0 := Lib.hid hfr0; have HOW := Lib.hid ho0; have HT := Lib.hid htop; have HB := Lib.hid hB; have HZ0 := Lib.hid hz0; have HW0 := Lib.hid hW0; have HPO := Lib.hid hpos; have HON := Lib.hid hone
  clear h hD hS hm0 hname hix hx0 hx1 hfr0 ho0 htop hB hz0 hW0 hpos hone hz hnS hn hb0
  go_enter Tryz.func66, Tryz.ntmps66
  go_wp2_with (go_at_call 103; rw [HW0.out]; refine HIX.out.mono ?_; rintro e w1 ⟨rfl, hb1⟩; have HB1 := Lib.hid hb1; clear hb1 c2)
  ·refine (HPO.out w1 HB1.out).mono ?_
   rintro e w2 ⟨sv', rfl, hmk, hfr⟩
   have hlt1 : w.heap.size + 1 < w1.heap.size := by have := HZ0.out; have := HB1.out.size; omega
   have hx1 : Blk w1 (w.heap.size + 1) 87 #[.slice none 0 0, .slice none 0 0, .int .i64 0] := Blk.below HX1.out HB1.out HX1.out.lt
   have hxk : Blk w2 (w.heap.size + 1) 87 #[.slice none 0 0, .slice none 0 0, .int .i64 0] := (hfr.keep _ (Nat.le_trans HT.out (by omega)) hlt1 (HOW.out _ (by omega))).trans hx1
   have hown : sv'.ownBlock ≠ some (w.heap.size + 1) := fun e => by
    rcases hfr.own _ e with q | q
    ·exact HOW.out _ (by omega) q
    ·omega
   have hfw : FrM B T w w2 sv sv' := (HF0.out.trans (FrM.quiet HB1.out (Nat.le_trans HT.out (by have := HZ0.out; omega)) (Nat.le_trans HB.out (by have := HZ0.out; omega)))).trans hfr
   have hT1 : T <= w.heap.size + 1 := Nat.le_trans HT.out (by omega)
   have HXK := Lib.hid hxk; have HMK := Lib.hid hmk; have HFW := Lib.hid hfw; have HT1 := Lib.hid hT1; have HON1 := Lib.hid hown
   clear hlt1 hx1 hxk hown hmk hfr hfw hT1
   go_wp2_with (go_at_call 73; refine (never_any _).mono ?_; rintro e w3 ⟨rfl, hb3⟩; have hxk := Blk.below HXK.out hb3 HXK.out.lt; have r0 := Blk.cell hxk 0; have r1 := Blk.cell hxk 1; have r2 := Blk.cell hxk 2; have fr0 := Blk.frozen hxk 0; have fr1 := Blk.frozen hxk 1; have fr2 := Blk.frozen hxk 2; simp only [List.getElem?_toArray, List.getElem?_cons_zero, List.getElem?_cons_succ] at r0 r1 r2; have HMK3 := Lib.hid (HMK.out.bel hb3); have HFW3 := Lib.hid (HFW.out.trans (FrM.quiet hb3 (Nat.le_trans HT1.out (Nat.le_of_lt HXK.out.lt)) (Nat.le_trans HB.out (Nat.le_trans (Nat.le_succ _) (Nat.le_of_lt HXK.out.lt))))); clear hxk hb3)
   have hm := ((HMK3.out.far HT1.out HON1.out (j := 0) (.slice none 0 0)).far HT1.out HON1.out (j := 1) (.slice none 0 0)).far HT1.out HON1.out (j := 2) (.int .i64 1152921504606846976)
   have hf := ((HFW3.out.new HB.out (p := ⟨w.heap.size + 1, 0, none⟩) (by simp) (.slice none 0 0)).new HB.out (p := ⟨w.heap.size + 1, 1, none⟩) (by simp) (.slice none 0 0)).new HB.out (p := ⟨w.heap.size + 1, 2, none⟩) (by simp) (.int .i64 1152921504606846976)
   exact bodyPost_ret (v := .agg #[.slice none 0 0, .slice none 0 0, .int .i64 1152921504606846976]) (by simp [results, Tryz.results66, go_sem, r0, r1, r2]) rfl ⟨_, sv', rfl, hf, .inr ⟨by omega, ⟨_, _, rfl, DoorsV.nil _ _, DoorsV.nil _ _⟩, hm⟩⟩
  ·refine (HON.out w1 HB1.out).mono ?_
   rintro e w2 ⟨v, sv', rfl, hp, hmk, hfr⟩
   obtain ⟨FA, fc, EA, ec, rfl, hpf, hpe, -, -, -, -, -, -⟩ := hp.parts
   obtain ⟨nf, hnf⟩ : ∃ n', [((n : Int), (0 : Int))].length = n' := ⟨_, rfl⟩
   rw [hnf] at hpf hpe ⊢
   have hlt1 : w.heap.size + 1 < w1.heap.size := by have := HZ0.out; have := HB1.out.size; omega
   have hx1 : Blk w1 (w.heap.size + 1) 87 #[.slice none 0 0, .slice none 0 0, .int .i64 0] := Blk.below HX1.out HB1.out HX1.out.lt
   have hxk : Blk w2 (w.heap.size + 1) 87 #[.slice none 0 0, .slice none 0 0, .int .i64 0] := (hfr.keep _ (Nat.le_trans HT.out (by omega)) hlt1 (HOW.out _ (by omega))).trans hx1
   have hown : sv'.ownBlock ≠ some (w.heap.size + 1) := fun e => by
    rcases hfr.own _ e with q | q
    ·exact HOW.out _ (by omega) q
    ·omega
   have hfw : FrM B T w w2 sv sv' := (HF0.out.trans (FrM.quiet HB1.out (Nat.le_trans HT.out (by have := HZ0.out; omega)) (Nat.le_trans HB.out (by have := HZ0.out; omega)))).trans hfr
   have hT1 : T <= w.heap.size + 1 := Nat.le_trans HT.out (by omega)
   have r0 := Blk.cell hxk 0; have r1 := Blk.cell hxk 1; have r2 := Blk.cell hxk 2
   have fr0 := Blk.frozen hxk 0; have fr1 := Blk.frozen hxk 1; have fr2 := Blk.frozen hxk 2
   simp only [List.getElem?_toArray, List.getElem?_cons_zero, List.getElem?_cons_succ] at r0 r1 r2
   have hq0 : (⟨w.heap.size + 1, 0, none⟩ : Addr).block < w1.heap.size := hlt1
   have hq1 : (⟨w.heap.size + 1, 1, none⟩ : Addr).block < w1.heap.size := hlt1
   have hq2 : (⟨w.heap.size + 1, 2, none⟩ : Addr).block < w1.heap.size := hlt1
   have HMK := Lib.hid hmk; have HFW := Lib.hid hfw; have HT1 := Lib.hid hT1; have HON1 := Lib.hid hown; have HPF := Lib.hid hpf; have HPE := Lib.hid hpe; have HFR := Lib.hid hfr
   clear hlt1 hx1 hxk hown hmk hfr hfw hT1 hp hpf hpe
   go_wp2_with fail
   have hm := (((HMK.out.far HT1.out HON1.out (j := 0) (.slice FA nf fc)).far HT1.out HON1.out (j := 1) (.slice EA nf ec)).far HT1.out HON1.out (j := 2) (.int .i64 1152921504606846976))
   have hf := (((HFW.out.new HB.out (p := ⟨w.heap.size + 1, 0, none⟩) (by simp) (.slice FA nf fc)).new HB.out (p := ⟨w.heap.size + 1, 1, none⟩) (by simp) (.slice EA nf ec)).new HB.out (p := ⟨w.heap.size + 1, 2, none⟩) (by simp) (.int .i64 1152921504606846976))
   exact bodyPost_ret (v := .agg #[.slice FA nf fc, .slice EA nf ec, .int .i64 1152921504606846976]) (by simp [results, Tryz.results66, go_sem, r0, r1, r2]) rfl ⟨_, sv', rfl, hf, .inl ⟨by omega, ⟨_, _, rfl, (((HPF.out.low hq0 _).low hq1 _).low hq2 _).sub (fun g h => ⟨by have := HZ0.out; have := HB1.out.size; omega, h.2⟩), (((HPE.out.low hq0 _).low hq1 _).low hq2 _).sub (fun g h => ⟨by have := HZ0.out; have := HB1.out.size; omega, h.2⟩)⟩, hm⟩⟩
end Go.Proofs.YtfccnadbiglagaaGreat
namespace Go.Proofs.YtfccnadbiglagaaGreat
open Go Go.RowKit Go.Proofs Go.Shelf
attribute [local go_sem] Oper.semAt_some
structure PcC where
 fA : Option Addr
 fn : Nat
 fc : Nat
 eA : Option Addr
 en : Nat
 ec : Nat
 z : Int
def PcC.cells (p : PcC) : Array Value := #[.slice p.fA p.fn p.fc, .slice p.eA p.en p.ec, .int .i64 p.z]
def KeepTwo (b Bs : Nat) (W W' : World) : Prop := W'.heap[b]? = W.heap[b]? /\ W'.heap[Bs]? = W.heap[Bs]?
def backs (len k : Nat) : List (Fin len) := (List.finRange len).reverse.take k
theorem backs_succ (len k : Nat) (h : k < len) : backs len (k + 1) = backs len k ++ [⟨len - 1 - k, by omega⟩] := by
 have hk : k < (List.finRange len).reverse.length := by simpa using h
 unfold backs
 rw [List.take_add_one, List.getElem?_eq_getElem hk]
 congr 1
 simp
theorem backs_length (len k : Nat) (h : k <= len) : (backs len k).length = k := by simp [backs]; omega
theorem back1_in (F : Fence) (n : Nat) (h8 : F.fn 145) (hro : F.round = none) (hn : 1 <= n) (l Bs b off len cap : Nat) (f : Nat -> PcC) (hlen9 : len <= 1000) (J Jx : List (Fin len) -> World -> Prop)
  (hY : ∀ pre x W, J pre W -> pre.length < len -> YieldAt F (n - 1) Tryz.prog l #[.int .i64 (x.1 : Int), .agg #[.slice (f x.1).fA (f x.1).fn (f x.1).fc, .slice (f x.1).eA (f x.1).en (f x.1).ec, .int .i64 (f x.1).z]] W fun e W' =>
   (e = .returned (.bool true) /\ J (pre ++ [x]) W' /\ KeepTwo b Bs W W') \/ (e = .returned (.bool false) /\ Jx (pre ++ [x]) W'))
  (W : World) (hBs : W.cell? ⟨Bs, 0, none⟩ = some (.slice (some ⟨b, off, none⟩) len cap)) (hc : ∀ j, j < len -> W.cell? ⟨b, off + j * 3, none⟩ = some (.slice (f j).fA (f j).fn (f j).fc) /\ W.cell? ⟨b, off + j * 3 + 1, none⟩ = some (.slice (f j).eA (f j).en (f j).ec) /\ W.cell? ⟨b, off + j * 3 + 2, none⟩ = some (.int .i64 (f j).z)) (h0 : J [] W) :
  CallsIn F n Tryz.prog 145 #[.func (.yield l) #[] #[], .pointer (some ⟨Bs, 0, none⟩)] W fun e W' => (∃ v, e = .returned v) /\
   ((∃ ys, ys = backs len len /\ J ys W') \/ (∃ pre, (∃ k, k <= len /\ pre = backs len k) /\ Jx pre W')) := by
  refine callsIn_of_wp Tryz.func145 rfl h8 ?_ hro
  simp only [Tryz.ntmps145, List.size_toArray, List.length_cons, List.length_nil, Nat.reduceAdd, Nat.reduceSub, Array.replicate_succ, Array.replicate_zero, List.push_toArray, List.append_toArray, List.nil_append, List.cons_append]
  gi_wp2
  gi_loopw [3] (fun i wr => ∃ k : Nat, k <= len /\ i = .int .i64 ((len : Int) - 1 - k) /\ J (backs len k) wr /\ KeepTwo b Bs W wr)
   (fun i _ => (intOf i + 1).toNat)
  case atStart => exact ⟨0, Nat.zero_le _, by simp, h0, rfl, rfl⟩
  case round =>
   obtain ⟨k, hk, rfl, hJs, hnx⟩ := hrel
   have hcb : wr.cell? ⟨Bs, 0, none⟩ = some (.slice (some ⟨b, off, none⟩) len cap) := by rw [cell_of_heap hnx.2]; exact hBs
   by_cases hlt : k < len
   ·obtain ⟨m, hm⟩ : ∃ m : Nat, m = len - 1 - k := ⟨_, rfl⟩
    have hmI : (len : Int) - 1 - k = (m : Int) := by omega
    have hml : m < len := by omega
    obtain ⟨e0, e1, e2⟩ := hc m hml
    rw [<- cell_of_heap hnx.1] at e0 e1 e2
    have i0 : (0 : Int) <= (m : Int) := Int.natCast_nonneg _
    have i1 : (m : Int) < (len : Int) := by omega
    rw [hmI]
    have HMI := Lib.hid hmI; have HM := Lib.hid hm; clear hm hmI
    obtain ⟨fn, tmps, assign, body, hy, hR⟩ := hY _ ⟨m, hml⟩ wr hJs (by rw [backs_length _ _ hk]; exact hlt)
    dsimp only at hy
    gi_wp2
    refine hR.mono ?_
    rintro e W3 (⟨rfl, hJ3, hk3⟩ | ⟨rfl, hJx3⟩)
    ·gi_wp2
     go_roundw
     case rel => exact ⟨k + 1, by omega, by have := HMI.out; congr 1; omega, by rw [backs_succ _ _ hlt]; have e : (⟨len - 1 - k, by omega⟩ : Fin len) = ⟨m, hml⟩ := Fin.ext HM.out.symm; rw [e]; exact hJ3, hk3.1.trans hnx.1, hk3.2.trans hnx.2⟩
     case measure => simp [intOf]
    ·gi_wp2
     refine bodyPost_ret (results_none rfl _ _ _) rfl ?_
     exact ⟨⟨_, rfl⟩, .inr ⟨_, ⟨k + 1, by omega, by rw [backs_succ _ _ hlt]; congr 2; exact Fin.ext HM.out⟩, hJx3⟩⟩
   ·obtain rfl : k = len := by omega
    gi_wp2
    go_end0
    exact ⟨⟨_, rfl⟩, .inl ⟨_, rfl, hJs⟩⟩
theorem backward_in (F : Fence) (n : Nat) (h5 : F.fn 129) (hro : F.round = none) (a : Option Addr) (len cap : Nat) (w : World) :
  CallsIn F n Tryz.prog 129 #[.slice a len cap] w fun e w' => e = .returned (.func (.func 145) #[] #[.pointer (some ⟨w.heap.size, 0, none⟩)]) /\ w' = w.alloc (.cells #[.slice a len cap] 157) := by
  refine callsIn_of_wp Tryz.func129 rfl h5 ?_ hro
  simp only [Tryz.ntmps129, List.size_toArray, List.length_cons, List.length_nil, Nat.reduceAdd, Nat.reduceSub, Array.replicate_succ, Array.replicate_zero, List.push_toArray, List.append_toArray, List.nil_append, List.cons_append]
  gi_wp2
  go_ret
  exact ⟨rfl, rfl⟩
theorem back_stops (F : Fence) (n : Nat) (h7 : F.fn 145) (hro : F.round = none) (hn : 1 <= n) (Bs b off len cap : Nat) (f : Nat -> PcC) (hlen9 : len <= 1000) (w : World) (hBs : w.cell? ⟨Bs, 0, none⟩ = some (.slice (some ⟨b, off, none⟩) len cap))
  (hc : ∀ j, j < len -> w.cell? ⟨b, off + j * 3, none⟩ = some (.slice (f j).fA (f j).fn (f j).fc) /\ w.cell? ⟨b, off + j * 3 + 1, none⟩ = some (.slice (f j).eA (f j).en (f j).ec) /\ w.cell? ⟨b, off + j * 3 + 2, none⟩ = some (.int .i64 (f j).z)) :
  SeqStopsK F n Tryz.prog 145 #[.pointer (some ⟨Bs, 0, none⟩)] (fun x : Fin len => #[Value.int .i64 (x.1 : Int), .agg #[.slice (f x.1).fA (f x.1).fn (f x.1).fc, .slice (f x.1).eA (f x.1).en (f x.1).ec, .int .i64 (f x.1).z]]) (KeepTwo b Bs) (fun ys => ys = backs len len) (fun _ => True) len w := fun l J Jx W hW _ _ hY h0 => by
  have hcl := fun j hj => bel_q hW (hc j hj).1
  refine (back1_in F n h7 hro hn l Bs b off len cap f hlen9 J Jx hY W (bel_q hW hBs) (fun j hj => ⟨bel_q hW (hc j hj).1, bel_q hW (hc j hj).2.1, bel_q hW (hc j hj).2.2⟩) h0).mono ?_
  rintro e W' ⟨he, ⟨ys, rfl, hj⟩ | ⟨pre, _, hj⟩⟩
  ·exact ⟨he, .inl ⟨_, rfl, hj⟩⟩
  ·exact ⟨he, .inr ⟨_, trivial, hj⟩⟩
theorem KeepTwo.t {b Bs : Nat} {A B C : World} (h : KeepTwo b Bs A B) (k : KeepTwo b Bs B C) : KeepTwo b Bs A C := ⟨k.1.trans h.1, k.2.trans h.2⟩
end Go.Proofs.YtfccnadbiglagaaGreat
