/- net.ways. -/
import Derived.Test.YtdcokkgdahbinaaVMiniI
import Derived.Test.YtdcokkgdahbinaaVAny
set_option linter.unusedVariables false
set_option linter.unusedSimpArgs false
set_option maxRecDepth 100000
set_option maxHeartbeats 8000000
namespace Go.Proofs.Ytdcokkgdahbinaa
open Go Go.RowKit Go.Proofs
def lastD (d : Nat -> Nat) : Nat -> Nat -> Int
 | 0, _ => -1
 | j + 1, t => if d j = t then (j : Int) else lastD d j t
theorem lastD_cases (d : Nat -> Nat) (t : Nat) : ∀ j, (lastD d j t = -1 /\ ∀ i, i < j -> d i ≠ t) \/ ∃ i, i < j /\ lastD d j t = (i : Int) /\ d i = t /\ ∀ i', i < i' -> i' < j -> d i' ≠ t
 | 0 => .inl ⟨rfl, fun i hi => absurd hi (Nat.not_lt_zero i)⟩
 | j + 1 => by
   unfold lastD
   by_cases e : d j = t
   ·rw [if_pos e]
    exact .inr ⟨j, Nat.lt_succ_self j, rfl, e, fun i' h1 h2 => by omega⟩
   ·rw [if_neg e]
    rcases lastD_cases d t j with ⟨h1, h2⟩ | ⟨i, h1, h2, h3, h4⟩
    ·refine .inl ⟨h1, fun i hi => ?_⟩
     rcases Nat.lt_or_ge i j with q | q
     ·exact h2 i q
     ·have : i = j := by omega
      subst this; exact e
    ·refine .inr ⟨i, by omega, h2, h3, fun i' h5 h6 => ?_⟩
     rcases Nat.lt_or_ge i' j with q | q
     ·exact h4 i' h5 q
     ·have : i' = j := by omega
      subst this; exact e
def lastL (n : Nat) (d : Nat -> Nat) (j : Nat) : List Int := (List.range n).map fun t => lastD d j t
def otherL (n : Nat) (d : Nat -> Nat) (j : Nat) : List Int := (List.range n).map fun i => if i < j then lastD d i (d i) else -1
theorem lastL_zero (n : Nat) (d : Nat -> Nat) : lastL n d 0 = List.replicate n (-1) := by
 apply List.ext_getElem
 ·simp [lastL]
 ·intro i h1 h2; simp [lastL, lastD]
theorem otherL_zero (n : Nat) (d : Nat -> Nat) : otherL n d 0 = List.replicate n (-1) := by
 apply List.ext_getElem
 ·simp [otherL]
 ·intro i h1 h2; simp [otherL]
theorem lastL_succ (n : Nat) (d : Nat -> Nat) (j : Nat) : (lastL n d j).set (d j) (j : Int) = lastL n d (j + 1) := by
 apply List.ext_getElem
 ·simp [lastL]
 ·intro i h1 h2
  simp only [lastL, List.getElem_set, List.getElem_map, List.getElem_range]
  show _ = if d j = i then (j : Int) else lastD d j i
  rfl
theorem otherL_succ (n : Nat) (d : Nat -> Nat) (j : Nat) : (otherL n d j).set j (lastD d j (d j)) = otherL n d (j + 1) := by
 apply List.ext_getElem
 ·simp [otherL]
 ·intro i h1 h2
  simp only [otherL, List.getElem_set, List.getElem_map, List.getElem_range]
  by_cases e : j = i
  ·subst e; rw [if_pos rfl, if_pos (Nat.lt_succ_self j)]
  ·rw [if_neg e]
   by_cases q : i < j
   ·rw [if_pos q, if_pos (by omega)]
   ·rw [if_neg q, if_neg (by omega)]
theorem lastL_get {n : Nat} (d : Nat -> Nat) (j : Nat) {t : Nat} (h : t < n) : (lastL n d j).getD t 0 = lastD d j t := by simp [lastL, h]
theorem otherL_get {n : Nat} (d : Nat -> Nat) {i : Nat} (h : i < n) : (otherL n d n).getD i 0 = lastD d i (d i) := by simp [otherL, h]
theorem blk_ne {w : World} {B b n sz : Nat} {t e : TypeId} {cs : Array Value} {v : Value} {xs : List Value} (hb : Blk w b t cs) (h : w.ownsRow B e sz v n xs) (hne : t ≠ e) : v.ownBlock ≠ some b := by
 intro q
 rcases h.2 with ⟨rfl, _⟩ | ⟨g, cap, cur, rfl, _, hh, _⟩
 ·cases q
 ·have : g = b := by simpa [Value.ownBlock] using q
  subst this
  unfold Blk at hb
  rw [hb] at hh
  injection hh with hh
  injection hh with h1 h2 h3
  exact hne h2
theorem rows_ne {w : World} {B B' n n' sz sz' : Nat} {e e' : TypeId} {v v' : Value} {xs xs' : List Value} (h : w.ownsRow B e sz v n xs) (h' : w.ownsRow B' e' sz' v' n' xs') (hne : e ≠ e') : ∀ k, v.ownBlock = some k -> v'.ownBlock ≠ some k := by
 intro k hk q
 rcases h.2 with ⟨rfl, _⟩ | ⟨g, cap, cur, rfl, _, hh, _⟩
 ·cases hk
 ·rcases h'.2 with ⟨rfl, _⟩ | ⟨g', cap', cur', rfl, _, hh', _⟩
  ·cases q
  ·have e1 : g = k := by simpa [Value.ownBlock] using hk
   have e2 : g' = k := by simpa [Value.ownBlock] using q
   subst e1; subst e2
   rw [hh] at hh'
   injection hh' with hh'
   injection hh' with h1 h2 h3
   exact hne h2
theorem info_way : (Try.prog.info? 108).map (fun i => (i.zero, i.size, i.bytes)) = some (some (.agg #[.slice none 0 0, .slice none 0 0]), 2, 48) := by kernel_rfl
def encW (n : Nat) (g : Nat × Nat) : List Value := [sl g.1 n n, sl g.2 n n]
theorem encW_len (n : Nat) (g : Nat × Nat) : (encW n g).length = 2 := rfl
structure WayL (w : World) (B n : Nat) (T : List (List Nat)) (v : Value) (k : Nat) (gl : List (Nat × Nat)) : Prop where
 row : OwnE (encW n) 108 2 w B v k gl
 len : gl.length = k
 last : ∀ i (h : i < gl.length), Own w B (sl (gl[i]).1 n n) n (lastL n (fun s => trN T s i) n)
 other : ∀ i (h : i < gl.length), Own w B (sl (gl[i]).2 n n) n (otherL n (fun s => trN T s i) n)
theorem WayL.bel {w w' : World} {B n : Nat} {T : List (List Nat)} {v : Value} {k : Nat} {gl : List (Nat × Nat)} (h : WayL w B n T v k gl) (hb : Below w.heap.size w w') : WayL w' B n T v k gl :=
 ⟨h.row.below_top hb, h.len, fun i hi => (h.last i hi).below_top hb, fun i hi => (h.other i hi).below_top hb⟩
theorem WayL.keep {w w' : World} {X : Nat -> Prop} {B n : Nat} {T : List (List Nat)} {v : Value} {k : Nat} {gl : List (Nat × Nat)} (h : WayL w B n T v k gl) (hb : Fr X w w') (hX : ∀ k, B <= k -> k < w.heap.size -> ¬ X k) : WayL w' B n T v k gl :=
 ⟨hb.rows h.row (fun j hj => hX j (h.row.lt j hj).1 (h.row.lt j hj).2), h.len, fun i hi => hb.own (h.last i hi) (fun j hj => hX j ((h.last i hi).lt j hj).1 ((h.last i hi).lt j hj).2), fun i hi => hb.own (h.other i hi) (fun j hj => hX j ((h.other i hi).lt j hj).1 ((h.other i hi).lt j hj).2)⟩
theorem ints_tr (T : List (List Nat)) (i j : Nat) : (intsN (T.getD i [])).getD j 0 = (trN T i j : Int) := by
 simp [intsN, trN, List.getD, List.getElem?_map]
 cases h9 : (T[i]?.getD [])[j]? with
 | none => simp
 | some z => simp
theorem cell_of_own {w : World} {B g n c : Nat} {l : List Int} (h : Own w B (sl g n c) n l) {i : Nat} (hi : i < n) : w.cell? ⟨g, i, none⟩ = some (.int .i64 (l.getD i 0)) := by
 rcases h.form with ⟨e, _⟩ | ⟨g', c', e, _, _, _, hc⟩
 ·cases e
 ·simp only [Value.slice.injEq, Option.some.injEq, Addr.mk.injEq, and_true, true_and] at e
  obtain ⟨rfl, rfl⟩ := e
  have := hc i hi
  rwa [Nat.zero_add] at this
theorem WayL.push {w wr : World} {X : Nat -> Prop} {B C n k g1 g2 : Nat} {T : List (List Nat)} {v : Value} {gl : List (Nat × Nat)} (h : WayL w B n T v k gl) (hb : Fr X w wr) (hX : ∀ q, B <= q -> q < C -> X q -> False)
  (h1 : Own wr C (sl g1 n n) n (lastL n (fun s => trN T s k) n)) (h2 : Own wr C (sl g2 n n) n (otherL n (fun s => trN T s k) n)) (hC : B <= C) (hlow : ∀ j, v.ownBlock = some j -> j < C) (hlow2 : ∀ i (h : i < gl.length), (gl[i]).1 < C /\ (gl[i]).2 < C) (g9 cap9 : Nat) (w9 : World)
  (hp : PushedE (encW n) 108 2 B wr w9 v g9 cap9 k gl (g1, g2)) : WayL w9 B n T (sl g9 (k + 1) cap9) (k + 1) (gl ++ [(g1, g2)]) := by
  have hr := hb.rows h.row (fun j hj hx => hX j (h.row.lt j hj).1 (hlow j hj) hx)
  have kp : ∀ {g : Nat} {l : List Int}, Own wr B (sl g n n) n l -> Own w9 B (sl g n n) n l := fun {g l} ho => ho.kept hp.grow (.inr (fun e => rows_ne ho hr (by decide) g rfl (by rw [<- e]; rfl)))
  refine ⟨hp.own, by simp [h.len], fun i hi => ?_, fun i hi => ?_⟩
  ·rcases Nat.lt_or_ge i gl.length with q | q
   ·rw [List.getElem_append_left q]
    exact kp (hb.own (h.last i q) (fun j hj hx => by
     have e : (gl[i]).1 = j := by simpa [Value.ownBlock] using hj
     exact hX j ((h.last i q).lt j hj).1 (by rw [<- e]; exact (hlow2 i q).1) hx))
   ·have : i = k := by have := h.len; simp at hi; omega
    subst this
    have e : (gl ++ [(g1, g2)])[i] = (g1, g2) := by simp [<- h.len]
    rw [e]
    exact kp (h1.more hC)
  ·rcases Nat.lt_or_ge i gl.length with q | q
   ·rw [List.getElem_append_left q]
    exact kp (hb.own (h.other i q) (fun j hj hx => by
     have e : (gl[i]).2 = j := by simpa [Value.ownBlock] using hj
     exact hX j ((h.other i q).lt j hj).1 (by rw [<- e]; exact (hlow2 i q).2) hx))
   ·have : i = k := by have := h.len; simp at hi; omega
    subst this
    have e : (gl ++ [(g1, g2)])[i] = (g1, g2) := by simp [<- h.len]
    rw [e]
    exact kp (h2.more hC)
structure P3 where
 p : Nat
 g1 : Nat
 g2 : Nat
theorem ways_any {w : World} {A : Option Addr} {c n k : Nat} {T : List (List Nat)} (h : NextR w (.slice A n c) T) (hl : T.length = n) (hT : RectN T k) (hn : n <= 1000) (hk : k <= 1000) :
  Calls Try.prog 61 #[.agg #[.slice A n c]] w fun e w' => ∃ v gl, e = .returned v /\ WayL w' w.heap.size n T v k gl /\ Below w.heap.size w w' := by
  have hpos : 0 < n := by have := hT.pos; omega
  obtain ⟨W0, hW0⟩ : ∃ W0, w.alloc (.cells #[.slice A n c] 57) = W0 := ⟨_, rfl⟩
  have hb0 : Below w.heap.size w W0 := by rw [<- hW0]; exact (Below.refl _ _).alloc (Nat.le_refl _) _
  have hx0 : Blk W0 w.heap.size 57 #[.slice A n c] := by rw [<- hW0]; exact Blk.new _ _ _
  have HW0 := Lib.hid hW0; have HB0 := Lib.hid hb0; have HX0 := Lib.hid hx0; have HR := Lib.hid (h.below hb0); have HT := Lib.hid hT; have HN := Lib.hid hl
  obtain ⟨gb, go, A0, m0, c0, hA, hm0, -, -, q1, q2⟩ := h.at_ (i := 0) (by omega)
  subst hA
  have hz0 : w.heap.size < W0.heap.size := hx0.lt
  clear hW0 hb0 hx0 h hT hl A0 m0 c0 hm0 q1 q2
  obtain ⟨nb, hnb⟩ : ∃ nb, nb = w.heap.size := ⟨_, rfl⟩
  obtain ⟨B, hB⟩ : ∃ B, B = W0.heap.size := ⟨_, rfl⟩
  have HNB := Lib.hid hnb; have HBE := Lib.hid hB
  obtain ⟨gb', go', A0, m0, c0, hA0, hm0, d0, -, q1, q2⟩ := HR.out.at_ (i := 0) (by rw [HN.out]; exact hpos)
  simp only [Option.some.injEq, Addr.mk.injEq, and_true] at hA0
  obtain ⟨rfl, rfl⟩ := hA0
  rw [HT.out.len 0 (by rw [HN.out]; exact hpos)] at hm0
  subst hm0
  rw [Nat.add_zero, <- HW0.out] at d0
  have p0 : ¬ n <= 0 := by omega
  have np : (0 : Int) < (n : Int) := by omega
  have t0 : decide (0 < n) = true := by simpa using hpos
  go_enter Try.func61, Try.ntmps61
  go_wp2_with fail
  rw [HW0.out]
  rw [<- hnb] at HX0 hz0 ⊢
  clear hnb d0 HW0
  have HW00 := Lib.hid (show WayL W0 B n T (.slice none 0 0) 0 [] from ⟨OwnE.nil _ _, rfl, fun i hi => absurd hi (by simp), fun i hi => absurd hi (by simp)⟩)
  go_loopw [3, 14] (fun vw vi wr => ∃ a : Nat, ∃ gl, vi = .int .i64 (a : Int) /\ a <= m0 /\ Hid (WayL wr B n T vw a gl) /\ Hid (Below W0.heap.size W0 wr)) (fun _ i _ => m0 - (intOf i).toNat)
  case atStart => exact ⟨0, [], rfl, Nat.zero_le _, HW00, Lib.hid (Below.refl _ _)⟩
  case round =>
   clear HW00
   obtain ⟨a, gl, rfl, ha, HWL, HB⟩ := hrel
   have a0 : (0 : Int) <= (a : Int) := Int.natCast_nonneg _
   by_cases hlt : a < m0
   ·have a1 : (a : Int) < (m0 : Int) := by omega
    have ta : decide (a < m0) = true := by simpa using hlt
    have hx := Blk.below HX0.out HB.out HX0.out.lt
    have HXB := Lib.hid hx
    have HLW : Hid ((∀ j, u3.ownBlock = some j -> j < wr.heap.size) /\ ∀ i (h : i < gl.length), (gl[i]).1 < wr.heap.size /\ (gl[i]).2 < wr.heap.size) := Lib.hid ⟨fun j hj => (HWL.out.row.lt j hj).2, fun i hi => ⟨((HWL.out.last i hi).lt _ rfl).2, ((HWL.out.other i hi).lt _ rfl).2⟩⟩
    have HKS : Hid (∀ W : World, Below wr.heap.size wr W -> (fun w' : World => w'.cell? ⟨nb, 0, none⟩ = some (.slice (some ⟨gb, go, none⟩) n c)) W) := Lib.hid (fun W hW => by
     have h0 := (Blk.below HXB.out hW HXB.out.lt).cell 0
     simpa using h0)
    clear hx
    go_wp2_with fail
    refine region_xq (π := P3) 8 (fun w' : World => w'.cell? ⟨nb, 0, none⟩ = some (.slice (some ⟨gb, go, none⟩) n c)) (fun (p : P3) (a : Act) => ((((((((a.put (some 17) (.agg #[.slice (some ⟨gb, go, none⟩) n c])).put (some 18) (.int .i64 (n : Int))).put (some 19) (sl p.g1 n n)).put (some 20) (.agg #[.slice (some ⟨gb, go, none⟩) n c])).put (some 21) (.int .i64 (n : Int))).put (some 22) (sl p.g2 n n)).put (some 23) (.agg #[sl p.g1 n n, sl p.g2 n n])).put (some 5) (.pointer (some ⟨p.p, 0, none⟩)))) (fun (p : P3) (W : World) => Below wr.heap.size wr W /\ Own W wr.heap.size (sl p.g1 n n) n (List.replicate n (-1)) /\ Own W wr.heap.size (sl p.g2 n n) n (List.replicate n (-1)) /\ p.g1 ≠ p.g2 /\ wr.heap.size <= p.p /\ Blk W p.p 108 #[sl p.g1 n n, sl p.g2 n n]) (fun (p : P3) (W : World) => Below wr.heap.size wr W /\ Own W wr.heap.size (sl p.g1 n n) n (List.replicate n (-1)) /\ Own W wr.heap.size (sl p.g2 n n) n (List.replicate n (-1)) /\ p.g1 ≠ p.g2 /\ wr.heap.size <= p.p /\ Blk W p.p 108 #[.slice none 0 0, .slice none 0 0] /\ (W.cell? ⟨nb, 0, none⟩ = some (.slice (some ⟨gb, go, none⟩) n c))) 1 #[true, true, true, true, true, true, true, true, false] (by kernel_rfl) ?_ ?_ ?_
    ·clear HKS
     rintro ⟨p, g1, g2⟩ W ⟨h1, h2, h3, h4, h5, h6, h7⟩
     dsimp only at h2 h3 h4 h5 h6 ⊢
     try simp only [Act.put, zq1, zq2, zq3, zq4, zq5, zq6]
     have r0 := Blk.cell h6 0; have r1 := Blk.cell h6 1; have f0 := Blk.frozen h6 0; have f1 := Blk.frozen h6 1
     simp only [List.getElem?_toArray, List.getElem?_cons_zero, List.getElem?_cons_succ] at r0 r1
     have H1 := Lib.hid h1; have H2 := Lib.hid h2; have H3 := Lib.hid h3; have H4 := Lib.hid h4; have H5 := Lib.hid h5; have H6 := Lib.hid h6
     clear h1 h2 h3 h4 h5 h6 h7
     refine anyX_last (by kernel_rfl) (by kernel_rfl) rfl rfl ?_
     try simp only [zq1, zq2, zq3]
     go_simp
     refine .inl ⟨⟨p, g1, g2⟩, rfl, ?_, ?_⟩
     ·dsimp only
      simp only [Act.put, zq1, zq2, zq3, zq4, zq5, zq6]
     have hq1 : (sl g1 n n).ownBlock ≠ some p := blk_ne H6.out H2.out (by decide)
     have hq2 : (sl g2 n n).ownBlock ≠ some p := blk_ne H6.out H3.out (by decide)
     exact ⟨(H1.out.setCell (p := ⟨p, 0, none⟩) H5.out _).setCell (p := ⟨p, 1, none⟩) H5.out _, own_set (own_set H2.out (p := ⟨p, 0, none⟩) hq1 _) (p := ⟨p, 1, none⟩) hq1 _, own_set (own_set H3.out (p := ⟨p, 0, none⟩) hq2 _) (p := ⟨p, 1, none⟩) hq2 _, H4.out, H5.out, by simpa using (H6.out.set_ 0 (sl g1 n n)).set_ 1 (sl g2 n n)⟩
    ·intro HLF
     have hb : Below wr.heap.size wr wr.drew := (Below.refl _ _).drew
     have hS := HKS.out _ hb
     generalize wr.drew = V0 at *
     refine tkx (i := 0) (v := ?_) hS ?_ ?_ (hQ := by exact ends_panic _ _ (fun _ _ _ h => h))
     rotate_left
     ·rintro w' s0
      go_simp
      try with_reducible rfl
     try simp only [Act.put, zq1, zq2, zq3, zq4, zq5, zq6]
     refine tkx (i := 3) (v := ?_) hS ?_ ?_ (hQ := by exact ends_panic _ _ (fun _ _ _ h => h))
     rotate_left
     ·rintro w' s0
      go_simp
      try with_reducible rfl
     try simp only [Act.put, zq1, zq2, zq3, zq4, zq5, zq6]
     refine anyX_2 (i := 1) (j := 7) (by kernel_rfl) (by decide) (by decide) rfl rfl rfl rfl ?_ ?_
     ·intro K hK
      try simp only [zq1, zq2, zq3]
      refine wp_enterE #[.agg #[.slice (some ⟨gb, go, none⟩) n c]] Try.func48 (by kernel_rfl) (by kernel_rfl) ?_ (size_any (some ⟨gb, go, none⟩) n c V0) ?_
      ·go_simp
      rintro e V1 ⟨rfl, hbn⟩
      refine ⟨_, rfl, ?_⟩
      replace hb := hb.trans (hbn.mono hb.size)
      clear hbn
      have hS := HKS.out _ hb
      refine hK _ _ hS ?_
      clear hK
      try simp only [Act.put, zq1, zq2, zq3, zq4, zq5, zq6]
      refine anyX_2 (i := 2) (j := 7) (by kernel_rfl) (by decide) (by decide) rfl rfl rfl rfl ?_ ?_
      ·intro K hK
       try simp only [zq1, zq2, zq3]
       refine wp_enterE #[.int .i64 (n : Int)] Try.func51 (by kernel_rfl) (by kernel_rfl) ?_ (noneOf_any n hn V1) ?_
       ·go_simp
       rintro e V2 ⟨g1, rfl, hg1, ho1, hbn⟩
       refine ⟨_, rfl, ?_⟩
       replace ho1 := ho1.more hb.size
       clear hg1
       replace hb := hb.trans (hbn.mono hb.size)
       clear hbn
       have hS := HKS.out _ hb
       refine hK _ _ hS ?_
       clear hK
       try simp only [Act.put, zq1, zq2, zq3, zq4, zq5, zq6]
       refine anyX_2 (i := 4) (j := 7) (by kernel_rfl) (by decide) (by decide) rfl rfl rfl rfl ?_ ?_
       ·intro K hK
        try simp only [zq1, zq2, zq3]
        refine wp_enterE #[.agg #[.slice (some ⟨gb, go, none⟩) n c]] Try.func48 (by kernel_rfl) (by kernel_rfl) ?_ (size_any (some ⟨gb, go, none⟩) n c V2) ?_
        ·go_simp
        rintro e V3 ⟨rfl, hbn⟩
        refine ⟨_, rfl, ?_⟩
        replace ho1 := ho1.below_top hbn
        replace hb := hb.trans (hbn.mono hb.size)
        clear hbn
        have hS := HKS.out _ hb
        refine hK _ _ hS ?_
        clear hK
        try simp only [Act.put, zq1, zq2, zq3, zq4, zq5, zq6]
        refine anyX_2 (i := 5) (j := 7) (by kernel_rfl) (by decide) (by decide) rfl rfl rfl rfl ?_ ?_
        ·intro K hK
         try simp only [zq1, zq2, zq3]
         refine wp_enterE #[.int .i64 (n : Int)] Try.func51 (by kernel_rfl) (by kernel_rfl) ?_ (noneOf_any n hn V3) ?_
         ·go_simp
         rintro e V4 ⟨g2, rfl, hg2, ho2, hbn⟩
         refine ⟨_, rfl, ?_⟩
         replace ho2 := ho2.more hb.size
         have hne12 : g1 ≠ g2 := by have q := (ho1.lt g1 rfl).2; intro e; subst e; omega
         clear hg2
         replace ho1 := ho1.below_top hbn
         replace hb := hb.trans (hbn.mono hb.size)
         clear hbn
         have hS := HKS.out _ hb
         refine hK _ _ hS ?_
         clear hK
         try simp only [Act.put, zq1, zq2, zq3, zq4, zq5, zq6]
         refine tkx (i := 6) (v := ?_) hS ?_ ?_ (hQ := by exact ends_panic _ _ (fun _ _ _ h => h))
         rotate_left
         ·rintro w' _
          go_simp
          try with_reducible rfl
         try simp only [Act.put, zq1, zq2, zq3, zq4, zq5, zq6]
         refine anyX_g (i := 7) (by kernel_rfl) (by decide) rfl (by rfl) ?_
         intro K hK
         try simp only [zq1, zq2, zq3]
         go_simp
         obtain ⟨V5, eV⟩ : ∃ W', V4.alloc (.cells #[.slice none 0 0, .slice none 0 0] 108) = W' := ⟨_, rfl⟩
         have hbn : Below V4.heap.size V4 V5 := by rw [<- eV]; exact (Below.refl _ _).alloc (Nat.le_refl _) _
         have xp : Blk V5 V4.heap.size 108 #[.slice none 0 0, .slice none 0 0] := by rw [<- eV]; exact Blk.new _ _ _
         have hlep5 := hb.size
         rw [eV]
         clear eV
         replace ho1 := ho1.below_top hbn
         replace ho2 := ho2.below_top hbn
         replace hb := hb.trans (hbn.mono hb.size)
         clear hbn
         obtain ⟨p5, hp⟩ : ∃ p, p = V4.heap.size := ⟨_, rfl⟩
         rw [<- hp] at xp hlep5 ⊢
         clear hp
         have hS := HKS.out _ hb
         refine hK _ _ hS ?_
         clear hK
         try simp only [Act.put, zq1, zq2, zq3, zq4, zq5, zq6]
         have hlf := HLF ⟨p5, g1, g2⟩ _ ⟨hb, ho1, ho2, hne12, hlep5, xp, hS⟩
         dsimp only at hlf
         simp only [Act.put, zq1, zq2, zq3, zq4, zq5, zq6] at hlf
         exact hlf
        ·intro K hK
         try simp only [zq1, zq2, zq3]
         go_simp
         obtain ⟨V4, eV⟩ : ∃ W', V3.alloc (.cells #[.slice none 0 0, .slice none 0 0] 108) = W' := ⟨_, rfl⟩
         have hbn : Below V3.heap.size V3 V4 := by rw [<- eV]; exact (Below.refl _ _).alloc (Nat.le_refl _) _
         have xp : Blk V4 V3.heap.size 108 #[.slice none 0 0, .slice none 0 0] := by rw [<- eV]; exact Blk.new _ _ _
         have hlep5 := hb.size
         rw [eV]
         clear eV
         replace ho1 := ho1.below_top hbn
         replace hb := hb.trans (hbn.mono hb.size)
         clear hbn
         obtain ⟨p5, hp⟩ : ∃ p, p = V3.heap.size := ⟨_, rfl⟩
         rw [<- hp] at xp hlep5 ⊢
         clear hp
         have hS := HKS.out _ hb
         refine hK _ _ hS ?_
         clear hK
         try simp only [Act.put, zq1, zq2, zq3, zq4, zq5, zq6]
         refine anyX_g (i := 5) (by kernel_rfl) (by decide) rfl (by rfl) ?_
         intro K hK
         try simp only [zq1, zq2, zq3]
         refine wp_enterE #[.int .i64 (n : Int)] Try.func51 (by kernel_rfl) (by kernel_rfl) ?_ (noneOf_any n hn V4) ?_
         ·go_simp
         rintro e V5 ⟨g2, rfl, hg2, ho2, hbn⟩
         refine ⟨_, rfl, ?_⟩
         replace ho2 := ho2.more hb.size
         have hne12 : g1 ≠ g2 := by have q := (ho1.lt g1 rfl).2; intro e; subst e; omega
         clear hg2
         replace ho1 := ho1.below_top hbn
         replace xp := Blk.below xp hbn xp.lt
         replace hb := hb.trans (hbn.mono hb.size)
         clear hbn
         have hS := HKS.out _ hb
         refine hK _ _ hS ?_
         clear hK
         try simp only [Act.put, zq1, zq2, zq3, zq4, zq5, zq6]
         refine tkx (i := 6) (v := ?_) hS ?_ ?_ (hQ := by exact ends_panic _ _ (fun _ _ _ h => h))
         rotate_left
         ·rintro w' _
          go_simp
          try with_reducible rfl
         try simp only [Act.put, zq1, zq2, zq3, zq4, zq5, zq6]
         have hlf := HLF ⟨p5, g1, g2⟩ _ ⟨hb, ho1, ho2, hne12, hlep5, xp, hS⟩
         dsimp only at hlf
         simp only [Act.put, zq1, zq2, zq3, zq4, zq5, zq6] at hlf
         exact hlf
       ·intro K hK
        try simp only [zq1, zq2, zq3]
        go_simp
        obtain ⟨V3, eV⟩ : ∃ W', V2.alloc (.cells #[.slice none 0 0, .slice none 0 0] 108) = W' := ⟨_, rfl⟩
        have hbn : Below V2.heap.size V2 V3 := by rw [<- eV]; exact (Below.refl _ _).alloc (Nat.le_refl _) _
        have xp : Blk V3 V2.heap.size 108 #[.slice none 0 0, .slice none 0 0] := by rw [<- eV]; exact Blk.new _ _ _
        have hlep5 := hb.size
        rw [eV]
        clear eV
        replace ho1 := ho1.below_top hbn
        replace hb := hb.trans (hbn.mono hb.size)
        clear hbn
        obtain ⟨p5, hp⟩ : ∃ p, p = V2.heap.size := ⟨_, rfl⟩
        rw [<- hp] at xp hlep5 ⊢
        clear hp
        have hS := HKS.out _ hb
        refine hK _ _ hS ?_
        clear hK
        try simp only [Act.put, zq1, zq2, zq3, zq4, zq5, zq6]
        refine anyX_g (i := 4) (by kernel_rfl) (by decide) rfl (by rfl) ?_
        intro K hK
        try simp only [zq1, zq2, zq3]
        refine wp_enterE #[.agg #[.slice (some ⟨gb, go, none⟩) n c]] Try.func48 (by kernel_rfl) (by kernel_rfl) ?_ (size_any (some ⟨gb, go, none⟩) n c V3) ?_
        ·go_simp
        rintro e V4 ⟨rfl, hbn⟩
        refine ⟨_, rfl, ?_⟩
        replace ho1 := ho1.below_top hbn
        replace xp := Blk.below xp hbn xp.lt
        replace hb := hb.trans (hbn.mono hb.size)
        clear hbn
        have hS := HKS.out _ hb
        refine hK _ _ hS ?_
        clear hK
        try simp only [Act.put, zq1, zq2, zq3, zq4, zq5, zq6]
        refine anyX_g (i := 5) (by kernel_rfl) (by decide) rfl (by rfl) ?_
        intro K hK
        try simp only [zq1, zq2, zq3]
        refine wp_enterE #[.int .i64 (n : Int)] Try.func51 (by kernel_rfl) (by kernel_rfl) ?_ (noneOf_any n hn V4) ?_
        ·go_simp
        rintro e V5 ⟨g2, rfl, hg2, ho2, hbn⟩
        refine ⟨_, rfl, ?_⟩
        replace ho2 := ho2.more hb.size
        have hne12 : g1 ≠ g2 := by have q := (ho1.lt g1 rfl).2; intro e; subst e; omega
        clear hg2
        replace ho1 := ho1.below_top hbn
        replace xp := Blk.below xp hbn xp.lt
        replace hb := hb.trans (hbn.mono hb.size)
        clear hbn
        have hS := HKS.out _ hb
        refine hK _ _ hS ?_
        clear hK
        try simp only [Act.put, zq1, zq2, zq3, zq4, zq5, zq6]
        refine tkx (i := 6) (v := ?_) hS ?_ ?_ (hQ := by exact ends_panic _ _ (fun _ _ _ h => h))
        rotate_left
        ·rintro w' _
         go_simp
         try with_reducible rfl
        try simp only [Act.put, zq1, zq2, zq3, zq4, zq5, zq6]
        have hlf := HLF ⟨p5, g1, g2⟩ _ ⟨hb, ho1, ho2, hne12, hlep5, xp, hS⟩
        dsimp only at hlf
        simp only [Act.put, zq1, zq2, zq3, zq4, zq5, zq6] at hlf
        exact hlf
      ·intro K hK
       try simp only [zq1, zq2, zq3]
       go_simp
       obtain ⟨V2, eV⟩ : ∃ W', V1.alloc (.cells #[.slice none 0 0, .slice none 0 0] 108) = W' := ⟨_, rfl⟩
       have hbn : Below V1.heap.size V1 V2 := by rw [<- eV]; exact (Below.refl _ _).alloc (Nat.le_refl _) _
       have xp : Blk V2 V1.heap.size 108 #[.slice none 0 0, .slice none 0 0] := by rw [<- eV]; exact Blk.new _ _ _
       have hlep5 := hb.size
       rw [eV]
       clear eV
       replace hb := hb.trans (hbn.mono hb.size)
       clear hbn
       obtain ⟨p5, hp⟩ : ∃ p, p = V1.heap.size := ⟨_, rfl⟩
       rw [<- hp] at xp hlep5 ⊢
       clear hp
       have hS := HKS.out _ hb
       refine hK _ _ hS ?_
       clear hK
       try simp only [Act.put, zq1, zq2, zq3, zq4, zq5, zq6]
       refine anyX_g (i := 2) (by kernel_rfl) (by decide) rfl (by rfl) ?_
       intro K hK
       try simp only [zq1, zq2, zq3]
       refine wp_enterE #[.int .i64 (n : Int)] Try.func51 (by kernel_rfl) (by kernel_rfl) ?_ (noneOf_any n hn V2) ?_
       ·go_simp
       rintro e V3 ⟨g1, rfl, hg1, ho1, hbn⟩
       refine ⟨_, rfl, ?_⟩
       replace ho1 := ho1.more hb.size
       clear hg1
       replace xp := Blk.below xp hbn xp.lt
       replace hb := hb.trans (hbn.mono hb.size)
       clear hbn
       have hS := HKS.out _ hb
       refine hK _ _ hS ?_
       clear hK
       try simp only [Act.put, zq1, zq2, zq3, zq4, zq5, zq6]
       refine anyX_g (i := 4) (by kernel_rfl) (by decide) rfl (by rfl) ?_
       intro K hK
       try simp only [zq1, zq2, zq3]
       refine wp_enterE #[.agg #[.slice (some ⟨gb, go, none⟩) n c]] Try.func48 (by kernel_rfl) (by kernel_rfl) ?_ (size_any (some ⟨gb, go, none⟩) n c V3) ?_
       ·go_simp
       rintro e V4 ⟨rfl, hbn⟩
       refine ⟨_, rfl, ?_⟩
       replace xp := Blk.below xp hbn xp.lt
       replace ho1 := ho1.below_top hbn
       replace hb := hb.trans (hbn.mono hb.size)
       clear hbn
       have hS := HKS.out _ hb
       refine hK _ _ hS ?_
       clear hK
       try simp only [Act.put, zq1, zq2, zq3, zq4, zq5, zq6]
       refine anyX_g (i := 5) (by kernel_rfl) (by decide) rfl (by rfl) ?_
       intro K hK
       try simp only [zq1, zq2, zq3]
       refine wp_enterE #[.int .i64 (n : Int)] Try.func51 (by kernel_rfl) (by kernel_rfl) ?_ (noneOf_any n hn V4) ?_
       ·go_simp
       rintro e V5 ⟨g2, rfl, hg2, ho2, hbn⟩
       refine ⟨_, rfl, ?_⟩
       replace ho2 := ho2.more hb.size
       have hne12 : g1 ≠ g2 := by have q := (ho1.lt g1 rfl).2; intro e; subst e; omega
       clear hg2
       replace xp := Blk.below xp hbn xp.lt
       replace ho1 := ho1.below_top hbn
       replace hb := hb.trans (hbn.mono hb.size)
       clear hbn
       have hS := HKS.out _ hb
       refine hK _ _ hS ?_
       clear hK
       try simp only [Act.put, zq1, zq2, zq3, zq4, zq5, zq6]
       refine tkx (i := 6) (v := ?_) hS ?_ ?_ (hQ := by exact ends_panic _ _ (fun _ _ _ h => h))
       rotate_left
       ·rintro w' _
        go_simp
        try with_reducible rfl
       try simp only [Act.put, zq1, zq2, zq3, zq4, zq5, zq6]
       have hlf := HLF ⟨p5, g1, g2⟩ _ ⟨hb, ho1, ho2, hne12, hlep5, xp, hS⟩
       dsimp only at hlf
       simp only [Act.put, zq1, zq2, zq3, zq4, zq5, zq6] at hlf
       exact hlf
     ·intro K hK
      try simp only [zq1, zq2, zq3]
      go_simp
      obtain ⟨V1, eV⟩ : ∃ W', V0.alloc (.cells #[.slice none 0 0, .slice none 0 0] 108) = W' := ⟨_, rfl⟩
      have hbn : Below V0.heap.size V0 V1 := by rw [<- eV]; exact (Below.refl _ _).alloc (Nat.le_refl _) _
      have xp : Blk V1 V0.heap.size 108 #[.slice none 0 0, .slice none 0 0] := by rw [<- eV]; exact Blk.new _ _ _
      have hlep5 := hb.size
      rw [eV]
      clear eV
      replace hb := hb.trans (hbn.mono hb.size)
      clear hbn
      obtain ⟨p5, hp⟩ : ∃ p, p = V0.heap.size := ⟨_, rfl⟩
      rw [<- hp] at xp hlep5 ⊢
      clear hp
      have hS := HKS.out _ hb
      refine hK _ _ hS ?_
      clear hK
      try simp only [Act.put, zq1, zq2, zq3, zq4, zq5, zq6]
      refine anyX_g (i := 1) (by kernel_rfl) (by decide) rfl (by rfl) ?_
      intro K hK
      try simp only [zq1, zq2, zq3]
      refine wp_enterE #[.agg #[.slice (some ⟨gb, go, none⟩) n c]] Try.func48 (by kernel_rfl) (by kernel_rfl) ?_ (size_any (some ⟨gb, go, none⟩) n c V1) ?_
      ·go_simp
      rintro e V2 ⟨rfl, hbn⟩
      refine ⟨_, rfl, ?_⟩
      replace xp := Blk.below xp hbn xp.lt
      replace hb := hb.trans (hbn.mono hb.size)
      clear hbn
      have hS := HKS.out _ hb
      refine hK _ _ hS ?_
      clear hK
      try simp only [Act.put, zq1, zq2, zq3, zq4, zq5, zq6]
      refine anyX_g (i := 2) (by kernel_rfl) (by decide) rfl (by rfl) ?_
      intro K hK
      try simp only [zq1, zq2, zq3]
      refine wp_enterE #[.int .i64 (n : Int)] Try.func51 (by kernel_rfl) (by kernel_rfl) ?_ (noneOf_any n hn V2) ?_
      ·go_simp
      rintro e V3 ⟨g1, rfl, hg1, ho1, hbn⟩
      refine ⟨_, rfl, ?_⟩
      replace ho1 := ho1.more hb.size
      clear hg1
      replace xp := Blk.below xp hbn xp.lt
      replace hb := hb.trans (hbn.mono hb.size)
      clear hbn
      have hS := HKS.out _ hb
      refine hK _ _ hS ?_
      clear hK
      try simp only [Act.put, zq1, zq2, zq3, zq4, zq5, zq6]
      refine anyX_g (i := 4) (by kernel_rfl) (by decide) rfl (by rfl) ?_
      intro K hK
      try simp only [zq1, zq2, zq3]
      refine wp_enterE #[.agg #[.slice (some ⟨gb, go, none⟩) n c]] Try.func48 (by kernel_rfl) (by kernel_rfl) ?_ (size_any (some ⟨gb, go, none⟩) n c V3) ?_
      ·go_simp
      rintro e V4 ⟨rfl, hbn⟩
      refine ⟨_, rfl, ?_⟩
      replace xp := Blk.below xp hbn xp.lt
      replace ho1 := ho1.below_top hbn
      replace hb := hb.trans (hbn.mono hb.size)
      clear hbn
      have hS := HKS.out _ hb
      refine hK _ _ hS ?_
      clear hK
      try simp only [Act.put, zq1, zq2, zq3, zq4, zq5, zq6]
      refine anyX_g (i := 5) (by kernel_rfl) (by decide) rfl (by rfl) ?_
      intro K hK
      try simp only [zq1, zq2, zq3]
      refine wp_enterE #[.int .i64 (n : Int)] Try.func51 (by kernel_rfl) (by kernel_rfl) ?_ (noneOf_any n hn V4) ?_
      ·go_simp
      rintro e V5 ⟨g2, rfl, hg2, ho2, hbn⟩
      refine ⟨_, rfl, ?_⟩
      replace ho2 := ho2.more hb.size
      have hne12 : g1 ≠ g2 := by have q := (ho1.lt g1 rfl).2; intro e; subst e; omega
      clear hg2
      replace xp := Blk.below xp hbn xp.lt
      replace ho1 := ho1.below_top hbn
      replace hb := hb.trans (hbn.mono hb.size)
      clear hbn
      have hS := HKS.out _ hb
      refine hK _ _ hS ?_
      clear hK
      try simp only [Act.put, zq1, zq2, zq3, zq4, zq5, zq6]
      refine tkx (i := 6) (v := ?_) hS ?_ ?_ (hQ := by exact ends_panic _ _ (fun _ _ _ h => h))
      rotate_left
      ·rintro w' _
       go_simp
       try with_reducible rfl
      try simp only [Act.put, zq1, zq2, zq3, zq4, zq5, zq6]
      have hlf := HLF ⟨p5, g1, g2⟩ _ ⟨hb, ho1, ho2, hne12, hlep5, xp, hS⟩
      dsimp only at hlf
      simp only [Act.put, zq1, zq2, zq3, zq4, zq5, zq6] at hlf
      exact hlf
    ·rintro ⟨p, g1, g2⟩ W ⟨h1, h2, h3, h4, h5, h6⟩
     dsimp only at h2 h3 h4 h5 h6 ⊢
     try simp only [Act.put, zq1, zq2, zq3, zq4, zq5, zq6]
     have HBW := Lib.hid h1; have HX5 := Lib.hid h6
     have HL0 : Hid (Own W wr.heap.size (sl g1 n n) n (lastL n (fun s => trN T s a) 0)) := Lib.hid (by rw [lastL_zero]; exact h2)
     have HO0 : Hid (Own W wr.heap.size (sl g2 n n) n (otherL n (fun s => trN T s a) 0)) := Lib.hid (by rw [otherL_zero]; exact h3)
     have h21 : ¬ g2 = g1 := fun e => h4 e.symm
     have hp1 : ¬ p = g1 := fun e => blk_ne h6 h2 (by decide) (by rw [<- e]; rfl)
     have hp2 : ¬ p = g2 := fun e => blk_ne h6 h3 (by decide) (by rw [<- e]; rfl)
     have hBr : Below W0.heap.size W0 W := HB.out.trans (h1.mono HB.out.size)
     have HBr := Lib.hid hBr
     have hxn := Blk.below HX0.out hBr HX0.out.lt
     have e0 := hxn.cell 0
     simp only [List.getElem?_toArray, List.getElem?_cons_zero] at e0
     have hzW := h1.size
     have hg1 := (h2.lt g1 rfl).1
     have hg2 := (h3.lt g2 rfl).1
     clear h1 h2 h3 h6 hBr hxn HXB
     have wl := HWL.out.bel HBW.out
     have HWLW := Lib.hid wl
     have HWL2 := Lib.hid wl
     clear wl HWL
     go_wp2_with fail
     obtain ⟨wo, hwo⟩ : ∃ wo, wo = wr := ⟨_, rfl⟩
     subst hwo
     obtain ⟨W1, hW1⟩ : ∃ W1, W1 = W := ⟨_, rfl⟩
     subst hW1
     clear e0
     go_loopw [27] (fun vj wr' => ∃ j : Nat, vj = .int .i64 (j : Int) /\ j <= n /\ Hid (Own wr' wo.heap.size (sl g1 n n) n (lastL n (fun s => trN T s a) j)) /\ Hid (Own wr' wo.heap.size (sl g2 n n) n (otherL n (fun s => trN T s a) j)) /\ Hid (Fr (fun q => q = g1 \/ q = g2) W1 wr')) (fun j _ => n - (intOf j).toNat)
     case atStart => exact ⟨0, rfl, Nat.zero_le _, HL0, HO0, Lib.hid (Fr.refl _ _)⟩
     case round =>
      clear HL0 HO0
      obtain ⟨j, rfl, hj, HLJ, HOJ, HFJ⟩ := hrel
      have j0 : (0 : Int) <= (j : Int) := Int.natCast_nonneg _
      have HBJ : Hid (Below wo.heap.size wo wr) := Lib.hid (HBW.out.trans (HFJ.out.below hzW (fun q hq hx => by rcases hx with e | e <;> omega)))
      have HB0J : Hid (Below W0.heap.size W0 wr) := Lib.hid (HB.out.trans (HBJ.out.mono HB.out.size))
      have hx5 := HFJ.out.blk HX5.out (fun hx => hx.elim hp1 hp2)
      have f0 := hx5.cell 0; have f1 := hx5.cell 1
      have hxn := Blk.below HX0.out HB0J.out HX0.out.lt
      have e0 := hxn.cell 0
      simp only [List.getElem?_toArray, List.getElem?_cons_zero, List.getElem?_cons_succ] at f0 f1 e0
      by_cases hlj : j < n
      ·have j1 : (j : Int) < (n : Int) := by omega
       have tj : decide (j < n) = true := by simpa using hlj
       obtain ⟨gb', go', A1, m1, c1, hA1, hm1, d1, r1, q3, q4⟩ := (HR.out.below HB0J.out).at_ (i := j) (by rw [HN.out]; exact hlj)
       simp only [Option.some.injEq, Addr.mk.injEq, and_true] at hA1
       obtain ⟨rfl, rfl⟩ := hA1
       rw [HT.out.len j (by rw [HN.out]; exact hlj)] at hm1
       subst hm1
       obtain ⟨g3, o3, hA3, -, e3⟩ := r1.at a hlt
       subst hA3
       have hlt2 := HT.out.lt j a (by rw [HN.out]; exact hlj) hlt
       rw [HN.out] at hlt2
       have ce : (intsN (T.getD j [])).getD a 0 = (trN T j a : Int) := ints_tr T j a
       rw [ce] at e3
       have HLS := Lib.hid (lastL_succ n (fun s => trN T s a) j); have HOS := Lib.hid (otherL_succ n (fun s => trN T s a) j)
       have hcl := cell_of_own HLJ.out hlt2
       rw [lastL_get _ _ hlt2] at hcl
       have hco := cell_of_own HOJ.out hlj
       generalize hod : (otherL n (fun s => trN T s a) j).getD j 0 = od at hco
       have k1 := HLJ.out.frozen (trN T j a)
       have k2 := HOJ.out.frozen j
       have z0 : (0 : Int) <= (trN T j a : Int) := Int.natCast_nonneg _
       have z1 : (trN T j a : Int) < (n : Int) := by omega
       have z2 : decide (trN T j a < n) = true := by simpa using hlt2
       have HST1 := Lib.hid (HLJ.out.stored (trN T j a) (j : Int)).1
       have HST2 := Lib.hid (HOJ.out.stored j (lastD (fun s => trN T s a) j (trN T j a))).1
       clear r1 hx5 hxn ce hod hlt2
       generalize lastD (fun s => trN T s a) j (trN T j a) = ld at *
       generalize hz : trN T j a = z at *
       have HZ := Lib.hid hz
       clear hz
       go_wp2_with fail
       go_region
       go_wp2_with fail
       have hq1 : (sl g1 n n).ownBlock ≠ some g2 := fun e => h4 (by simpa [Value.ownBlock] using e)
       have hq2 : (sl g2 n n).ownBlock ≠ some g1 := fun e => h21 (by simpa [Value.ownBlock] using e)
       refine ⟨⟨j + 1, by go_num, by omega, Lib.hid ?_, Lib.hid ?_, Lib.hid ((HFJ.out.set_ (p := ⟨g2, j, none⟩) (.inl (.inr rfl)) _).set_ (p := ⟨g1, z, none⟩) (.inl (.inl rfl)) _).drew⟩, by simp [intOf]; omega⟩
       ·rw [<- HLS.out]
        exact Own.drew ((own_set HLJ.out (p := ⟨g2, j, none⟩) hq1 _).stored z (j : Int)).1
       ·rw [<- HOS.out]
        exact Own.drew (own_set (HOJ.out.stored j ld).1 (p := ⟨g1, z, none⟩) hq2 _)
      ·have HJN : Hid (j = n) := Lib.hid (by omega)
       have HJL : Hid (Own wr wo.heap.size (sl g1 n n) n (lastL n (fun s => trN T s a) n)) := Lib.hid (by have := HLJ.out; rw [HJN.out] at this; exact this)
       have HJO : Hid (Own wr wo.heap.size (sl g2 n n) n (otherL n (fun s => trN T s a) n)) := Lib.hid (by have := HOJ.out; rw [HJN.out] at this; exact this)
       have hkeep := HWLW.out.push (C := wo.heap.size) HFJ.out (fun q h1 h2 hx => by rcases hx with e | e <;> omega) (HJL.out) (HJO.out) (by have := HB.out.size; omega) HLW.out.1 HLW.out.2
       have HKEEP := Lib.hid hkeep
       have hbs : B <= wr.heap.size := by have := HB0J.out.size; omega
       have HBJF := HB0J
       have ha9 : a <= 1000000000 := by omega
       have HROW := Lib.hid (HFJ.out.rows HWL2.out.row (fun q hq hx => by have := HLW.out.1 q hq; rcases hx with e | e <;> omega))
       clear hkeep hxn hx5
       go_wp2_with (at_builtin; refine wpList_pushE rfl (.tmp 51) (.tmp 53) 104 rfl 48 _ Try.underlying104 info_way rfl (by omega) (by omega) B wr u3 a gl (g1, g2) _ rfl rfl (by simp [encW, Value.oneCell']) (by rfl) HROW.out wr.heap.size (by rfl) rfl ha9 hbs ?_; intro g9 cap9 w9 hp9; have HP := Lib.hid hp9; clear hp9)
       exact ⟨⟨a + 1, gl ++ [(g1, g2)], by go_num, by omega, Lib.hid (HKEEP.out g9 cap9 w9 HP.out), Lib.hid (HP.out.below HBJF.out (Nat.le_of_eq hB.symm) HBJF.out.size)⟩, by simp [intOf]; omega⟩
   ·obtain rfl : a = m0 := by omega
    have HBF := Lib.hid (HB0.out.trans (HB.out.mono HB0.out.size))
    go_wp2_with fail
    go_ret
    refine ⟨_, gl, rfl, ?_, HBF.out⟩
    have hz : w.heap.size <= B := by have := HBE.out; have := HNB.out; omega
    have := HWL.out
    exact ⟨this.row.more hz, this.len, fun i hi => (this.last i hi).more hz, fun i hi => (this.other i hi).more hz⟩
end Go.Proofs.Ytdcokkgdahbinaa
