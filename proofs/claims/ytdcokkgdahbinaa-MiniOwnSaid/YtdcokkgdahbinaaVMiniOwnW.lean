/- Rows that may be stored to: their shape stays. MiniAll MiniOwn -/
import Derived.Test.YtdcokkgdahbinaaVMiniRh
import Derived.Test.YtdcokkgdahbinaaVMiniMa
import Derived.Test.YtdcokkgdahbinaaVMiniP
import Derived.Test.YtdcokkgdahbinaaVMiniMg
set_option linter.unusedVariables false
set_option linter.unusedSimpArgs false
set_option maxRecDepth 100000
set_option maxHeartbeats 8000000
namespace Go.Proofs.Ytdcokkgdahbinaa
open Go Go.RowKit Go.Proofs
def RowS (w : World) (B : Nat) (e : TypeId) (sz : Nat) (v : Value) (n : Nat) : Prop := ∃ xs, w.ownsRow B e sz v n xs
def LLF (w : World) (B : Nat) (e e' : TypeId) (sz : Nat) (v : Value) (k : Nat) (vals : List Value) (ns : Nat -> Nat) : Prop :=
 w.ownsRow B e 1 v k vals /\ ∀ i, i < k -> RowS w B e' sz (vals.getD i undef) (ns i)
section
variable {w w' : World} {B C : Nat} {e e' : TypeId} {sz k n : Nat} {v : Value} {vals : List Value} {ns : Nat -> Nat}
theorem RowS.set_ (h : RowS w B e sz v n) (g i : Nat) (u : Value) : RowS (w.setCell ⟨g, i, none⟩ u) B e sz v n := by
 obtain ⟨xs, h1, h2⟩ := h
 rcases h2 with h2 | ⟨q, cap, cur, rfl, hg, hh, a, b, c, d⟩
 ·exact ⟨xs, h1, .inl h2⟩
 ·by_cases hq : q = g
  ·subst hq
   have hx : Blk (w.setCell ⟨q, i, none⟩ u) q e (cur.setIfInBounds i u) := Blk.set_ (t := e) hh i u
   refine ⟨(cur.setIfInBounds i u).toList.take (n * sz), ?_, .inr ⟨q, cap, cur.setIfInBounds i u, rfl, hg, hx, a, b, by simpa using c, rfl⟩⟩
   rw [List.length_take]
   have h9 : n * sz <= cap * sz := Nat.mul_le_mul_right _ a
   rw [Array.length_toList, Array.size_setIfInBounds, c]
   exact Nat.min_eq_left h9
  ·exact ⟨xs, h1, .inr ⟨q, cap, cur, rfl, hg, (Below.heap_setCell w ⟨g, i, none⟩ u q hq).trans hh, a, b, c, d⟩⟩
theorem row_set {t : TypeId} {s' m : Nat} {y : Value} {ys : List Value} (h : w.ownsRow B t s' y m ys) {g i c : Nat} (hr : RowS w B e sz (sl g n c) n) (hne : t ≠ e) (u : Value) : (w.setCell ⟨g, i, none⟩ u).ownsRow B t s' y m ys := by
 obtain ⟨xs, hx⟩ := hr
 exact rowFr h ((Fr.refl (fun q => q = g) w).set_ (p := ⟨g, i, none⟩) (.inl rfl) u) (fun q hq e => by subst e; exact rows_ne h hx hne q hq rfl)
theorem ownsRow_moreS {u : Value} {xs : List Value} (h : w.ownsRow C e sz u n xs) (hB : B <= C) : w.ownsRow B e sz u n xs := by
 obtain ⟨h1, h2⟩ := h
 refine ⟨h1, ?_⟩
 rcases h2 with h2 | ⟨g, cap, cur, rfl, hg, r⟩
 ·exact .inl h2
 ·exact .inr ⟨g, cap, cur, rfl, Nat.le_trans hB hg, r⟩
theorem RowS.more (h : RowS w C e sz v n) (hB : B <= C) : RowS w B e sz v n := by
 obtain ⟨xs, h⟩ := h
 exact ⟨xs, ownsRow_moreS h hB⟩
theorem RowS.below (h : RowS w B e sz v n) (hb : Below w.heap.size w w') : RowS w' B e sz v n := by
 obtain ⟨xs, h⟩ := h
 exact ⟨xs, ownsRow_bel h hb⟩
theorem LLF.below (h : LLF w B e e' sz v k vals ns) (hb : Below w.heap.size w w') : LLF w' B e e' sz v k vals ns := ⟨ownsRow_bel h.1 hb, fun i hi => (h.2 i hi).below hb⟩
theorem RowS.ptr {A : Option Addr} {c : Nat} (h : RowS w B e sz (.slice A n c) n) {j : Nat} (hj : j < n * sz) : ∃ g x, A = some ⟨g, 0, none⟩ /\ B <= g /\ n <= c /\ c <= maxLen /\ w.cell? ⟨g, j, none⟩ = some x /\ w.frozen? ⟨g, j, none⟩ = false := by
 obtain ⟨xs, h⟩ := h
 have h0 := h
 rcases h.2 with ⟨_, h2⟩ | ⟨g, cap, cur, ev, hg, hh, a, b, c', d⟩
 ·subst h2; omega
 ·simp only [Value.slice.injEq, true_and] at ev
  obtain ⟨rfl, rfl⟩ := ev
  have hc : Blk w g e cur := hh
  have hx : j < cur.size := by rw [c']; exact Nat.lt_of_lt_of_le hj (Nat.mul_le_mul_right _ a)
  refine ⟨g, cur[j], rfl, hg, a, b, ?_, hc.frozen j⟩
  rw [hc.cell]
  exact Array.getElem?_eq_getElem hx
theorem RowS.form (h : RowS w B e sz v n) : ∃ A c, v = .slice A n c /\ n <= c /\ c <= maxLen := by
 obtain ⟨xs, h⟩ := h
 rcases h.2 with ⟨rfl, rfl⟩ | ⟨g, cap, cur, rfl, hg, hh, a, b, c', d⟩
 ·exact ⟨none, 0, rfl, Nat.le_refl _, Nat.zero_le _⟩
 ·exact ⟨_, _, rfl, a, b⟩
theorem LLF.at_ {A : Option Addr} {c : Nat} (h : LLF w B e e' sz (.slice A k c) k vals ns) {i : Nat} (hi : i < k) : ∃ g A' c', A = some ⟨g, 0, none⟩ /\ vals.getD i undef = .slice A' (ns i) c' /\ ns i <= c' /\ c' <= maxLen := by
 obtain ⟨g, x, rfl, -⟩ := RowS.ptr ⟨_, h.1⟩ (j := i) (by omega)
 obtain ⟨A', c', e1, l1, l2⟩ := (h.2 i hi).form
 exact ⟨g, A', c', rfl, e1, l1, l2⟩
theorem LLF.cell {g c : Nat} (h : LLF w B e e' sz (sl g k c) k vals ns) {i : Nat} (hi : i < k) : w.cell? ⟨g, i, none⟩ = some (vals.getD i undef) := by
 have hl : vals.length = k := by have := h.1.1; omega
 rw [World.ownsRow.cellAt h.1 i (by omega)]
 simp [List.getD, List.getElem?_eq_getElem (show i < vals.length by omega)]
theorem LLF.set_ (h : LLF w B e e' sz v k vals ns) {t : TypeId} {g i m c s' : Nat} (hr : RowS w B t s' (sl g m c) m) (hne : e ≠ t) (u : Value) : LLF (w.setCell ⟨g, i, none⟩ u) B e e' sz v k vals ns :=
 ⟨row_set h.1 hr hne u, fun q hq => (h.2 q hq).set_ g i u⟩
theorem OwnLL.shape {xss : List (Nat × List Value)} (h : OwnLL w C e e' sz v k xss) (hB : B <= C) : ∃ vals, LLF w B e e' sz v k vals (fun i => (xss.getD i (0, [])).1) := by
 obtain ⟨-, vals, h1, h2⟩ := h
 exact ⟨vals, ownsRow_moreS h1 hB, fun i hi => ⟨_, ownsRow_moreS (h2 i hi).1 hB⟩⟩
end
structure OwnSt (B : Nat) (V w : World) (b11 : Nat) (C CO : Value) (r : Nat) (cv : List Value) (cn : Nat -> Nat) (N : Value) (k : Nat) (b13 : Nat) (G GE : Value) (s : Nat) (ev : List Value) (en : Nat -> Nat) (b15 : Nat) (P PE : Value) (pv : List Value) (pn : Nat -> Nat) : Prop where
 bel : Below B V w
 x11 : Blk w b11 26 #[C, CO]
 c : LLF w B 22 3 1 C r cv cn
 n : RowS w B 3 1 N k
 x13 : Blk w b13 30 #[G, GE]
 e : LLF w B 42 53 3 GE s ev en
 x15 : Blk w b15 30 #[P, PE]
 p : LLF w B 22 3 1 P k pv pn
section
variable {B : Nat} {V w : World} {b11 : Nat} {C CO : Value} {r : Nat} {cv : List Value} {cn : Nat -> Nat} {N : Value} {k : Nat} {b13 : Nat} {G GE : Value} {s : Nat} {ev : List Value} {en : Nat -> Nat} {b15 : Nat} {P PE : Value} {pv : List Value} {pn : Nat -> Nat}
theorem blkS {t : TypeId} {cs : Array Value} {b g m c s' i : Nat} {t' : TypeId} (h : Blk w b t cs) (hr : RowS w B t' s' (sl g m c) m) (hne : t ≠ t') (u : Value) : Blk (w.setCell ⟨g, i, none⟩ u) b t cs := by
 obtain ⟨xs, hr⟩ := hr
 exact h.far (p := ⟨g, i, none⟩) (fun e => blk_ne h hr hne (by rw [e]; rfl)) u
theorem RowS.lo {t' : TypeId} {s' g m c : Nat} (hr : RowS w B t' s' (sl g m c) m) : B <= g := by
 obtain ⟨xs, hr⟩ := hr
 exact (hr.lt g rfl).1
theorem OwnSt.store (h : OwnSt B V w b11 C CO r cv cn N k b13 G GE s ev en b15 P PE pv pn) {t : TypeId} {s' g m c : Nat} (hr : RowS w B t s' (sl g m c) m) (ht : t = 3 \/ t = 53) (i : Nat) (u : Value) : OwnSt B V (w.setCell ⟨g, i, none⟩ u) b11 C CO r cv cn N k b13 G GE s ev en b15 P PE pv pn := by
 refine ⟨h.bel.setCell (p := ⟨g, i, none⟩) hr.lo u, blkS h.x11 hr ?_ u, h.c.set_ hr ?_ u, h.n.set_ g i u, blkS h.x13 hr ?_ u, h.e.set_ hr ?_ u, blkS h.x15 hr ?_ u, h.p.set_ hr ?_ u⟩
 all_goals
  rcases ht with rfl | rfl
  ·decide
  ·decide
theorem OwnSt.drewN (h : OwnSt B V w b11 C CO r cv cn N k b13 G GE s ev en b15 P PE pv pn) (d : Nat) : OwnSt B V (w.drewN d) b11 C CO r cv cn N k b13 G GE s ev en b15 P PE pv pn := by
 have hb : Below w.heap.size w (w.drewN d) := below_drewN (Below.refl _ _) d
 exact ⟨below_drewN h.bel d, h.x11.drewN d, h.c.below hb, h.n.below hb, h.x13.drewN d, h.e.below hb, h.x15.drewN d, h.p.below hb⟩
end
end Go.Proofs.Ytdcokkgdahbinaa
namespace Go.Proofs.Ytdcokkgdahbinaa
open Go Go.RowKit Go.Proofs
theorem mach_one {α : Type} {T : List (List Nat)} {k r r' : Nat} {g : Nat -> α} {f f' : Nat -> Nat} (h : MachF T k g f r) (h' : MachF T k g f' r') :
  r' = r /\ repN T (EF f') = repN T (EF f) /\ quoN T (EF f') = quoN T (EF f) /\ ∀ s, s < T.length -> nameN T (EF f') s = nameN T (EF f) s := by
  have hEE : ∀ x y, x < T.length -> y < T.length -> EF f x y = EF f' (id x) (id y) := fun x y hx hy => by
   unfold EF
   rw [Bool.eq_iff_iff]
   simp only [decide_eq_true_eq, id]
   exact (h.kern x y hx hy).trans (h'.kern x y hx hy).symm
  have hrep := rep_map (h := id) h.rect h.rect (EF.eqv f) (EF.eqv f') hEE rfl (fun x hx => hx) (fun x a _ _ => rfl)
  have hquo := quo_map (h := id) h.rect h.rect (EF.eqv f) (EF.eqv f') hEE rfl (fun x hx => hx) (fun x a _ _ => rfl)
  have hr : repN T (EF f') = repN T (EF f) := by rw [<- hrep]; simp
  refine ⟨by rw [<- h.len, <- h'.len, hr], hr, hquo.symm, fun s hs => ?_⟩
  have ho := of_map (h := id) h.rect hrep hEE hs
  unfold nameN
  split
  ·exact congrArg Int.ofNat ho
  ·rfl
theorem miniAll_walk (a0 : Int) (a1 : Int) (a2 : Option Addr) (len2 cap2 : Nat) (z2 : List Int) (w : World) (w0 : (Lit.int .i64 a0).wf = true) (w1 : (Lit.int .i64 a1).wf = true) (w2 : IsRow .i64 w a2 len2 cap2 z2) :
  Calls Try.prog 3 #[.int .i64 a0, .int .i64 a1, .slice a2 len2 cap2] w fun e w' => e = .returned (.bool true) /\ Below w.heap.size w w' := by
  have hk := kOf_is a0; have hn := nOf_is a1; have hk9 := kOf_lt a0; have hn9 := nOf_lt a1
  obtain ⟨k, ek⟩ : ∃ k, kOf a0 = k := ⟨_, rfl⟩
  obtain ⟨n, en⟩ : ∃ n, nOf a1 = n := ⟨_, rfl⟩
  rw [ek] at hk hk9
  rw [en] at hn hn9
  clear ek en
  obtain ⟨k0, k9⟩ := hk9
  obtain ⟨n0, n9⟩ := hn9
  have hT := law_rect (z2.take len2) (k := k) (n := n) k0
  have hTl := lawT_len (z2.take len2) k n
  have hOl := lawO_len (z2.take len2) k n
  have hO2 := lawO_lt (z2.take len2) k n
  obtain ⟨T, eT⟩ : ∃ T, lawT (z2.take len2) k n = T := ⟨_, rfl⟩
  obtain ⟨O, eO⟩ : ∃ O, lawO (z2.take len2) k n = O := ⟨_, rfl⟩
  rw [eT] at hT hTl
  rw [eO] at hOl hO2
  have RI := Lib.hid w2.readsI
  have HK := Lib.hid hk; have HN := Lib.hid hn; have HT := Lib.hid hT; have HTL := Lib.hid hTl; have HOL := Lib.hid hOl; have HO2 := Lib.hid hO2; have ET := Lib.hid eT; have EO := Lib.hid eO
  clear hk hn hT hTl hOl hO2 eT eO w0 w1 w2
  have hE2 : ∀ i, i < k -> ((lawEs O).getD i []).length = 2 := fun i hi => lawE_two HOL.out hi
  have hEi : ∀ i, i < k -> ∀ u ∈ (lawEs O).getD i [], ∀ c, In64 (atV u c) := fun i hi => lawE_in HOL.out HO2.out hi
  have hEl : (lawEs O).length = k := by rw [lawEs_len, HOL.out]
  obtain ⟨E, eE⟩ : ∃ E, lawEs O = E := ⟨_, rfl⟩
  rw [eE] at hE2 hEi hEl
  have HE2 := Lib.hid hE2; have HEI := Lib.hid hEi; have HEL := Lib.hid hEl; have EE := Lib.hid eE
  clear hE2 hEi hEl eE
  go_enter Try.func3, Try.ntmps3
  go_wp2_with fail
  refine (known_any _).mono ?_
  rintro e w1 ⟨rfl, hb⟩
  replace RI := Lib.hid (RI.out.below hb)
  have BB := Lib.hid hb
  clear hb
  go_wp2_with fail
  refine (lawB_mach RI.out a0 a1 HK.out HN.out).mono ?_
  rintro e w2 ⟨NA, nc, OA, oc, rfl, hN, hO, l1, l2, l3, l4, hb⟩
  have RN := Lib.hid (hN)
  have RO := Lib.hid (hO)
  replace RI := Lib.hid (RI.out.below hb)
  replace BB := Lib.hid (BB.out.trans (hb.mono BB.out.size))
  rw [ET.out] at RN
  rw [EO.out] at RO
  clear hN hO hb
  go_wp2_with fail
  refine (lawF_mach RI.out a0 a1 HK.out HN.out).mono ?_
  rintro e w3 ⟨NC, ne, OC, oe, rfl, hN, hO, m1, m2, m3, m4, hb⟩
  have RF := Lib.hid (hN)
  have RE := Lib.hid (hO)
  replace RN := Lib.hid (RN.out.below hb)
  replace RO := Lib.hid (RO.out.below hb)
  replace BB := Lib.hid (BB.out.trans (hb.mono BB.out.size))
  rw [ET.out] at RF
  rw [EO.out, EE.out] at RE
  clear hN hO hb RI
  obtain ⟨b7, hb7⟩ : ∃ b, b = w3.heap.size := ⟨_, rfl⟩
  obtain ⟨V7, hV7⟩ : ∃ V, w3.alloc (.cells #[.slice NA k nc, .slice OA k oc] 26) = V := ⟨_, rfl⟩
  have hb' : Below w3.heap.size w3 V7 := by rw [<- hV7]; exact (Below.refl _ _).alloc (Nat.le_refl _) _
  have x' : Blk V7 b7 26 #[.slice NA k nc, .slice OA k oc] := by rw [<- hV7, hb7]; exact Blk.new _ _ _
  replace RN := Lib.hid (RN.out.below hb')
  replace RO := Lib.hid (RO.out.below hb')
  replace RF := Lib.hid (RF.out.below hb')
  replace RE := Lib.hid (RE.out.below hb')
  replace BB := Lib.hid (BB.out.trans (hb'.mono BB.out.size))
  have Xb7 := Lib.hid x'
  have HV7 := Lib.hid hV7; have Eb7 := Lib.hid hb7
  clear hb' x' hV7 hb7
  obtain ⟨b8, hb8⟩ : ∃ b, b = V7.heap.size := ⟨_, rfl⟩
  obtain ⟨V8, hV8⟩ : ∃ V, V7.alloc (.cells #[.slice NC k ne, .slice OC k oe] 30) = V := ⟨_, rfl⟩
  have hb' : Below V7.heap.size V7 V8 := by rw [<- hV8]; exact (Below.refl _ _).alloc (Nat.le_refl _) _
  have x' : Blk V8 b8 30 #[.slice NC k ne, .slice OC k oe] := by rw [<- hV8, hb8]; exact Blk.new _ _ _
  replace RN := Lib.hid (RN.out.below hb')
  replace RO := Lib.hid (RO.out.below hb')
  replace RF := Lib.hid (RF.out.below hb')
  replace RE := Lib.hid (RE.out.below hb')
  replace Xb7 := Lib.hid (Blk.below Xb7.out hb' Xb7.out.lt)
  replace BB := Lib.hid (BB.out.trans (hb'.mono BB.out.size))
  have Xb8 := Lib.hid x'
  have HV8 := Lib.hid hV8; have Eb8 := Lib.hid hb8
  clear hb' x' hV8 hb8
  have e8 : b7 + 1 = b8 := by
   have := Eb8.out
   rw [<- HV7.out] at this
   rw [World.size_alloc, <- Eb7.out] at this
   exact this.symm
  go_wp2_with fail
  rw [HV7.out, HV8.out, <- Eb7.out, e8]
  refine (back_mach RN.out HTL.out HT.out RO.out (by omega) (by omega) (fun x => by have := HO2.out x; omega)).mono ?_
  rintro e w4 ⟨NB, nd, OB, od, gn, f, r, rfl, hM, hQ, hQO, hNM, l5, l6, l7, l8, hb⟩
  have MM := Lib.hid (hM)
  have RQ := Lib.hid (hQ)
  have RQO := Lib.hid (hQO)
  have RM := Lib.hid (hNM)
  replace RN := Lib.hid (RN.out.below hb)
  replace RO := Lib.hid (RO.out.below hb)
  replace RF := Lib.hid (RF.out.below hb)
  replace RE := Lib.hid (RE.out.below hb)
  replace BB := Lib.hid (BB.out.trans (hb.mono BB.out.size))
  replace Xb7 := Lib.hid (Blk.below Xb7.out hb Xb7.out.lt)
  replace Xb8 := Lib.hid (Blk.below Xb8.out hb Xb8.out.lt)
  have hr9 : r <= k := by have := hM.le; rw [HTL.out] at this; exact this
  have HQL := Lib.hid hM.qlen
  clear hM hQ hQO hNM hb
  obtain ⟨b9, hb9⟩ : ∃ b, b = w4.heap.size := ⟨_, rfl⟩
  obtain ⟨V9, hV9⟩ : ∃ V, w4.alloc (.cells #[.slice NB r nd, .slice OB r od] 26) = V := ⟨_, rfl⟩
  have hb' : Below w4.heap.size w4 V9 := by rw [<- hV9]; exact (Below.refl _ _).alloc (Nat.le_refl _) _
  have x' : Blk V9 b9 26 #[.slice NB r nd, .slice OB r od] := by rw [<- hV9, hb9]; exact Blk.new _ _ _
  replace RN := Lib.hid (RN.out.below hb')
  replace RO := Lib.hid (RO.out.below hb')
  replace RF := Lib.hid (RF.out.below hb')
  replace RE := Lib.hid (RE.out.below hb')
  replace RQ := Lib.hid (RQ.out.below hb')
  replace RQO := Lib.hid (RQO.out.below hb')
  replace RM := Lib.hid (RM.out.below hb')
  replace Xb7 := Lib.hid (Blk.below Xb7.out hb' Xb7.out.lt)
  replace Xb8 := Lib.hid (Blk.below Xb8.out hb' Xb8.out.lt)
  replace BB := Lib.hid (BB.out.trans (hb'.mono BB.out.size))
  have Xb9 := Lib.hid x'
  have HV9 := Lib.hid hV9; have Eb9 := Lib.hid hb9
  clear hb' x' hV9 hb9
  have cb70 := Xb7.out.cell 0; have cb71 := Xb7.out.cell 1
  simp only [List.getElem?_toArray, List.getElem?_cons_zero, List.getElem?_cons_succ] at cb70 cb71
  rw [<- HV9.out] at cb70 cb71
  go_wp2_with fail
  rw [HV9.out, <- Eb9.out]
  clear cb70 cb71
  refine (rback_mach RN.out HTL.out HT.out RO.out (by omega) (by omega) (by omega) (fun x => by have := HO2.out x; omega)).mono ?_
  rintro e w5 ⟨NX, nx, OX, ox, GX, gx, f', r', rfl, hM, hQ, hQO, hNM, m5, m6, m7, m8, hb⟩
  have SQ := Lib.hid (hQ)
  have SQO := Lib.hid (hQO)
  have SM := Lib.hid (hNM)
  replace RN := Lib.hid (RN.out.below hb)
  replace RO := Lib.hid (RO.out.below hb)
  replace RF := Lib.hid (RF.out.below hb)
  replace RE := Lib.hid (RE.out.below hb)
  replace RQ := Lib.hid (RQ.out.below hb)
  replace RQO := Lib.hid (RQO.out.below hb)
  replace RM := Lib.hid (RM.out.below hb)
  replace BB := Lib.hid (BB.out.trans (hb.mono BB.out.size))
  replace Xb7 := Lib.hid (Blk.below Xb7.out hb Xb7.out.lt)
  replace Xb8 := Lib.hid (Blk.below Xb8.out hb Xb8.out.lt)
  replace Xb9 := Lib.hid (Blk.below Xb9.out hb Xb9.out.lt)
  obtain ⟨er, erep, equo, enm⟩ := mach_one MM.out hM
  subst er
  rw [equo] at SQ
  have eqo : quoO T f' O = quoO T f O := by unfold quoO; rw [erep]
  rw [eqo] at SQO
  have enz : rowZ k (nameN T (EF f')) = rowZ k (nameN T (EF f)) := rowZ_eq fun s hs => enm s (by rw [HTL.out]; exact hs)
  rw [enz] at SM
  have HQOL := Lib.hid (quoO_len (T := T) (f := f) O)
  rw [MM.out.len] at HQOL
  generalize quoN T (EF f) = Q at *
  generalize quoO T f O = QO at *
  generalize nameN T (EF f) = nm at *
  clear hM hQ hQO hNM hb erep equo enm eqo enz MM RN RO
  obtain ⟨b11, hb11⟩ : ∃ b, b = w5.heap.size := ⟨_, rfl⟩
  obtain ⟨V11, hV11⟩ : ∃ V, w5.alloc (.cells #[.slice NX r' nx, .slice OX r' ox] 26) = V := ⟨_, rfl⟩
  have hb' : Below w5.heap.size w5 V11 := by rw [<- hV11]; exact (Below.refl _ _).alloc (Nat.le_refl _) _
  have x' : Blk V11 b11 26 #[.slice NX r' nx, .slice OX r' ox] := by rw [<- hV11, hb11]; exact Blk.new _ _ _
  replace RF := Lib.hid (RF.out.below hb')
  replace RE := Lib.hid (RE.out.below hb')
  replace RQ := Lib.hid (RQ.out.below hb')
  replace RQO := Lib.hid (RQO.out.below hb')
  replace RM := Lib.hid (RM.out.below hb')
  replace SQ := Lib.hid (SQ.out.below hb')
  replace SQO := Lib.hid (SQO.out.below hb')
  replace SM := Lib.hid (SM.out.below hb')
  replace Xb7 := Lib.hid (Blk.below Xb7.out hb' Xb7.out.lt)
  replace Xb8 := Lib.hid (Blk.below Xb8.out hb' Xb8.out.lt)
  replace Xb9 := Lib.hid (Blk.below Xb9.out hb' Xb9.out.lt)
  replace BB := Lib.hid (BB.out.trans (hb'.mono BB.out.size))
  have Xb11 := Lib.hid x'
  have HV11 := Lib.hid hV11; have Eb11 := Lib.hid hb11
  clear hb' x' hV11 hb11
  have cb80 := Xb8.out.cell 0; have cb81 := Xb8.out.cell 1
  simp only [List.getElem?_toArray, List.getElem?_cons_zero, List.getElem?_cons_succ] at cb80 cb81
  rw [<- HV11.out] at cb80 cb81
  go_wp2_with fail
  rw [HV11.out, <- Eb11.out]
  clear cb80 cb81
  refine (fwd_mach RF.out HTL.out HT.out RE.out HEL.out HE2.out (by omega) HEI.out (by omega) (by omega)).mono ?_
  rintro e w6 ⟨ND, nf, OD, og, gm, f2, s, rfl, hM, hQ, hQO, hNM, p5, p6, p7, p8, hb⟩
  have MM := Lib.hid (hM)
  have FQ := Lib.hid (hQ)
  have FQE := Lib.hid (hQO)
  have FM := Lib.hid (hNM)
  replace RF := Lib.hid (RF.out.below hb)
  replace RE := Lib.hid (RE.out.below hb)
  replace RQ := Lib.hid (RQ.out.below hb)
  replace RQO := Lib.hid (RQO.out.below hb)
  replace RM := Lib.hid (RM.out.below hb)
  replace SQ := Lib.hid (SQ.out.below hb)
  replace SQO := Lib.hid (SQO.out.below hb)
  replace SM := Lib.hid (SM.out.below hb)
  replace BB := Lib.hid (BB.out.trans (hb.mono BB.out.size))
  replace Xb7 := Lib.hid (Blk.below Xb7.out hb Xb7.out.lt)
  replace Xb8 := Lib.hid (Blk.below Xb8.out hb Xb8.out.lt)
  replace Xb9 := Lib.hid (Blk.below Xb9.out hb Xb9.out.lt)
  replace Xb11 := Lib.hid (Blk.below Xb11.out hb Xb11.out.lt)
  have HFL := Lib.hid hM.qlen
  have hs9 : s <= k := by have := hM.le; rw [HTL.out] at this; exact this
  clear hM hQ hQO hNM hb
  obtain ⟨b13, hb13⟩ : ∃ b, b = w6.heap.size := ⟨_, rfl⟩
  obtain ⟨V13, hV13⟩ : ∃ V, w6.alloc (.cells #[.slice ND s nf, .slice OD s og] 30) = V := ⟨_, rfl⟩
  have hb' : Below w6.heap.size w6 V13 := by rw [<- hV13]; exact (Below.refl _ _).alloc (Nat.le_refl _) _
  have x' : Blk V13 b13 30 #[.slice ND s nf, .slice OD s og] := by rw [<- hV13, hb13]; exact Blk.new _ _ _
  replace RF := Lib.hid (RF.out.below hb')
  replace RE := Lib.hid (RE.out.below hb')
  replace RQ := Lib.hid (RQ.out.below hb')
  replace RQO := Lib.hid (RQO.out.below hb')
  replace RM := Lib.hid (RM.out.below hb')
  replace SQ := Lib.hid (SQ.out.below hb')
  replace SQO := Lib.hid (SQO.out.below hb')
  replace SM := Lib.hid (SM.out.below hb')
  replace FQ := Lib.hid (FQ.out.below hb')
  replace FQE := Lib.hid (FQE.out.below hb')
  replace FM := Lib.hid (FM.out.below hb')
  replace Xb7 := Lib.hid (Blk.below Xb7.out hb' Xb7.out.lt)
  replace Xb8 := Lib.hid (Blk.below Xb8.out hb' Xb8.out.lt)
  replace Xb9 := Lib.hid (Blk.below Xb9.out hb' Xb9.out.lt)
  replace Xb11 := Lib.hid (Blk.below Xb11.out hb' Xb11.out.lt)
  replace BB := Lib.hid (BB.out.trans (hb'.mono BB.out.size))
  have Xb13 := Lib.hid x'
  have HV13 := Lib.hid hV13; have Eb13 := Lib.hid hb13
  clear hb' x' hV13 hb13
  have cb80 := Xb8.out.cell 0; have cb81 := Xb8.out.cell 1
  simp only [List.getElem?_toArray, List.getElem?_cons_zero, List.getElem?_cons_succ] at cb80 cb81
  rw [<- HV13.out] at cb80 cb81
  go_wp2_with fail
  rw [HV13.out, <- Eb13.out]
  clear cb80 cb81
  refine (rfwd_mach RF.out HTL.out HT.out RE.out HEL.out HE2.out (by omega) (by omega) (by omega) (by omega)).mono ?_
  rintro e w7 ⟨NY, ny, OY, oy, GY, gy, f2', s', rfl, hM, hQ, hQO, hNM, q5, q6, q7, q8, hb⟩
  have TQ := Lib.hid (hQ)
  have TQE := Lib.hid (hQO)
  have TM := Lib.hid (hNM)
  replace RQ := Lib.hid (RQ.out.below hb)
  replace RQO := Lib.hid (RQO.out.below hb)
  replace RM := Lib.hid (RM.out.below hb)
  replace SQ := Lib.hid (SQ.out.below hb)
  replace SQO := Lib.hid (SQO.out.below hb)
  replace SM := Lib.hid (SM.out.below hb)
  replace FQ := Lib.hid (FQ.out.below hb)
  replace FQE := Lib.hid (FQE.out.below hb)
  replace FM := Lib.hid (FM.out.below hb)
  replace BB := Lib.hid (BB.out.trans (hb.mono BB.out.size))
  replace Xb7 := Lib.hid (Blk.below Xb7.out hb Xb7.out.lt)
  replace Xb8 := Lib.hid (Blk.below Xb8.out hb Xb8.out.lt)
  replace Xb9 := Lib.hid (Blk.below Xb9.out hb Xb9.out.lt)
  replace Xb11 := Lib.hid (Blk.below Xb11.out hb Xb11.out.lt)
  replace Xb13 := Lib.hid (Blk.below Xb13.out hb Xb13.out.lt)
  obtain ⟨er, erep, equo, enm⟩ := mach_one MM.out hM
  subst er
  rw [equo] at TQ
  have eqo : quoE T f2' E = quoE T f2 E := by unfold quoE; rw [erep]
  rw [eqo] at TQE
  have enz : rowZ k (nameN T (EF f2')) = rowZ k (nameN T (EF f2)) := rowZ_eq fun s hs => enm s (by rw [HTL.out]; exact hs)
  rw [enz] at TM
  have HQEL := Lib.hid (quoE_len T f2 E)
  rw [MM.out.len] at HQEL
  generalize quoN T (EF f2) = P at *
  generalize quoE T f2 E = PE at *
  generalize nameN T (EF f2) = nm2 at *
  clear hM hQ hQO hNM hb erep equo enm eqo enz MM RF RE
  obtain ⟨b15, hb15⟩ : ∃ b, b = w7.heap.size := ⟨_, rfl⟩
  obtain ⟨V15, hV15⟩ : ∃ V, w7.alloc (.cells #[.slice NY s' ny, .slice OY s' oy] 30) = V := ⟨_, rfl⟩
  have hb' : Below w7.heap.size w7 V15 := by rw [<- hV15]; exact (Below.refl _ _).alloc (Nat.le_refl _) _
  have x' : Blk V15 b15 30 #[.slice NY s' ny, .slice OY s' oy] := by rw [<- hV15, hb15]; exact Blk.new _ _ _
  replace RQ := Lib.hid (RQ.out.below hb')
  replace RQO := Lib.hid (RQO.out.below hb')
  replace RM := Lib.hid (RM.out.below hb')
  replace SQ := Lib.hid (SQ.out.below hb')
  replace SQO := Lib.hid (SQO.out.below hb')
  replace SM := Lib.hid (SM.out.below hb')
  replace FQ := Lib.hid (FQ.out.below hb')
  replace FQE := Lib.hid (FQE.out.below hb')
  replace FM := Lib.hid (FM.out.below hb')
  replace TQ := Lib.hid (TQ.out.below hb')
  replace TQE := Lib.hid (TQE.out.below hb')
  replace TM := Lib.hid (TM.out.below hb')
  replace Xb7 := Lib.hid (Blk.below Xb7.out hb' Xb7.out.lt)
  replace Xb8 := Lib.hid (Blk.below Xb8.out hb' Xb8.out.lt)
  replace Xb9 := Lib.hid (Blk.below Xb9.out hb' Xb9.out.lt)
  replace Xb11 := Lib.hid (Blk.below Xb11.out hb' Xb11.out.lt)
  replace Xb13 := Lib.hid (Blk.below Xb13.out hb' Xb13.out.lt)
  replace BB := Lib.hid (BB.out.trans (hb'.mono BB.out.size))
  have Xb15 := Lib.hid x'
  have HV15 := Lib.hid hV15; have Eb15 := Lib.hid hb15
  clear hb' x' hV15 hb15
  have cb90 := Xb9.out.cell 0; have cb91 := Xb9.out.cell 1
  simp only [List.getElem?_toArray, List.getElem?_cons_zero, List.getElem?_cons_succ] at cb90 cb91
  rw [<- HV15.out] at cb90 cb91
  have cb110 := Xb11.out.cell 0; have cb111 := Xb11.out.cell 1
  simp only [List.getElem?_toArray, List.getElem?_cons_zero, List.getElem?_cons_succ] at cb110 cb111
  rw [<- HV15.out] at cb110 cb111
  go_wp2_with fail
  rw [HV15.out, <- Eb15.out]
  clear cb90 cb91 cb110 cb111
  refine (bsame_true RQ.out SQ.out RQO.out SQO.out HQL.out).mono ?_
  rintro e w8 ⟨rfl, hb⟩
  replace RM := Lib.hid (RM.out.below hb)
  replace SM := Lib.hid (SM.out.below hb)
  replace FQ := Lib.hid (FQ.out.below hb)
  replace FQE := Lib.hid (FQE.out.below hb)
  replace FM := Lib.hid (FM.out.below hb)
  replace TQ := Lib.hid (TQ.out.below hb)
  replace TQE := Lib.hid (TQE.out.below hb)
  replace TM := Lib.hid (TM.out.below hb)
  replace BB := Lib.hid (BB.out.trans (hb.mono BB.out.size))
  replace Xb13 := Lib.hid (Blk.below Xb13.out hb Xb13.out.lt)
  replace Xb15 := Lib.hid (Blk.below Xb15.out hb Xb15.out.lt)
  clear hb
  go_wp2_with fail
  refine (ints_true RM.out SM.out).mono ?_
  rintro e w9 ⟨rfl, d, rfl⟩
  replace FQ := Lib.hid (FQ.out.below (below_drewN (Below.refl _ _) d)); replace FQE := Lib.hid (FQE.out.below (below_drewN (Below.refl _ _) d)); replace TQ := Lib.hid (TQ.out.below (below_drewN (Below.refl _ _) d)); replace TQE := Lib.hid (TQE.out.below (below_drewN (Below.refl _ _) d)); replace FM := Lib.hid (FM.out.below (below_drewN (Below.refl _ _) d)); replace TM := Lib.hid (TM.out.below (below_drewN (Below.refl _ _) d))
  have hx13 := Xb13.out.drewN d; have hx15 := Xb15.out.drewN d
  replace BB := Lib.hid (below_drewN BB.out d)
  have c30 := hx13.cell 0; have c31 := hx13.cell 1; have c50 := hx15.cell 0; have c51 := hx15.cell 1
  simp only [List.getElem?_toArray, List.getElem?_cons_zero, List.getElem?_cons_succ] at c30 c31 c50 c51
  generalize w8.drewN d = W9 at *
  go_wp2_with fail
  refine (fsame_true FQ.out TQ.out FQE.out TQE.out HFL.out HQEL.out).mono ?_
  rintro e w10 ⟨rfl, hb⟩
  replace FM := Lib.hid (FM.out.below hb)
  replace TM := Lib.hid (TM.out.below hb)
  replace BB := Lib.hid (BB.out.trans (hb.mono BB.out.size))
  go_wp2_with fail
  refine (ints_true FM.out TM.out).mono ?_
  rintro e w11 ⟨rfl, d, rfl⟩
  go_wp2_with fail
  go_ret
  exact ⟨rfl, below_drewN BB.out d⟩
end Go.Proofs.Ytdcokkgdahbinaa
namespace Go.Proofs.Ytdcokkgdahbinaa
open Go Go.RowKit Go.Proofs
theorem miniOwn_walk (a0 : Int) (a1 : Int) (a2 : Option Addr) (len2 cap2 : Nat) (z2 : List Int) (a3 : Int) (w : World) (w0 : (Lit.int .i64 a0).wf = true) (w1 : (Lit.int .i64 a1).wf = true) (w2 : IsRow .i64 w a2 len2 cap2 z2) (w3 : (Lit.int .i64 a3).wf = true) :
  Calls Try.prog 12 #[.int .i64 a0, .int .i64 a1, .slice a2 len2 cap2, .int .i64 a3] w fun e w' => e = .returned (.bool true) /\ Below w.heap.size w w' := by
  have hk := kOf_is a0; have hn := nOf_is a1; have hk9 := kOf_lt a0; have hn9 := nOf_lt a1
  obtain ⟨k, ek⟩ : ∃ k, kOf a0 = k := ⟨_, rfl⟩
  obtain ⟨n, en⟩ : ∃ n, nOf a1 = n := ⟨_, rfl⟩
  rw [ek] at hk hk9
  rw [en] at hn hn9
  clear ek en
  obtain ⟨k0, k9⟩ := hk9
  obtain ⟨n0, n9⟩ := hn9
  have hT := law_rect (z2.take len2) (k := k) (n := n) k0
  have hTl := lawT_len (z2.take len2) k n
  have hOl := lawO_len (z2.take len2) k n
  have hO2 := lawO_lt (z2.take len2) k n
  obtain ⟨T, eT⟩ : ∃ T, lawT (z2.take len2) k n = T := ⟨_, rfl⟩
  obtain ⟨O, eO⟩ : ∃ O, lawO (z2.take len2) k n = O := ⟨_, rfl⟩
  rw [eT] at hT hTl
  rw [eO] at hOl hO2
  have RI := Lib.hid w2.readsI
  have HK := Lib.hid hk; have HN := Lib.hid hn; have HT := Lib.hid hT; have HTL := Lib.hid hTl; have HOL := Lib.hid hOl; have HO2 := Lib.hid hO2; have ET := Lib.hid eT; have EO := Lib.hid eO
  clear hk hn hT hTl hOl hO2 eT eO w0 w1 w2 w3
  have hE2 : ∀ i, i < k -> ((lawEs O).getD i []).length = 2 := fun i hi => lawE_two HOL.out hi
  have hEi : ∀ i, i < k -> ∀ u ∈ (lawEs O).getD i [], ∀ c, In64 (atV u c) := fun i hi => lawE_in HOL.out HO2.out hi
  have hEl : (lawEs O).length = k := by rw [lawEs_len, HOL.out]
  obtain ⟨E, eE⟩ : ∃ E, lawEs O = E := ⟨_, rfl⟩
  rw [eE] at hE2 hEi hEl
  have HE2 := Lib.hid hE2; have HEI := Lib.hid hEi; have HEL := Lib.hid hEl; have EE := Lib.hid eE
  clear hE2 hEi hEl eE
  go_enter Try.func12, Try.ntmps12
  go_wp2_with fail
  refine (known_any _).mono ?_
  rintro e w1 ⟨rfl, hb⟩
  replace RI := Lib.hid (RI.out.below hb)
  have BB := Lib.hid hb
  clear hb
  go_wp2_with fail
  refine (lawB_mach RI.out a0 a1 HK.out HN.out).mono ?_
  rintro e w2 ⟨NA, nc, OA, oc, rfl, hN, hO, l1, l2, l3, l4, hb⟩
  have RN := Lib.hid (hN)
  have RO := Lib.hid (hO)
  replace RI := Lib.hid (RI.out.below hb)
  replace BB := Lib.hid (BB.out.trans (hb.mono BB.out.size))
  rw [ET.out] at RN
  rw [EO.out] at RO
  clear hN hO hb
  go_wp2_with fail
  refine (lawF_mach RI.out a0 a1 HK.out HN.out).mono ?_
  rintro e w3 ⟨NC, ne, OC, oe, rfl, hN, hO, m1, m2, m3, m4, hb⟩
  have RF := Lib.hid (hN)
  have RE := Lib.hid (hO)
  replace RN := Lib.hid (RN.out.below hb)
  replace RO := Lib.hid (RO.out.below hb)
  replace RI := Lib.hid (RI.out.below hb)
  replace BB := Lib.hid (BB.out.trans (hb.mono BB.out.size))
  rw [ET.out] at RF
  rw [EO.out, EE.out] at RE
  clear hN hO hb
  obtain ⟨b9, hb9⟩ : ∃ b, b = w3.heap.size := ⟨_, rfl⟩
  obtain ⟨V7, hV7⟩ : ∃ V, w3.alloc (.cells #[.slice NA k nc, .slice OA k oc] 26) = V := ⟨_, rfl⟩
  have hb' : Below w3.heap.size w3 V7 := by rw [<- hV7]; exact (Below.refl _ _).alloc (Nat.le_refl _) _
  have x' : Blk V7 b9 26 #[.slice NA k nc, .slice OA k oc] := by rw [<- hV7, hb9]; exact Blk.new _ _ _
  replace RI := Lib.hid (RI.out.below hb')
  replace RN := Lib.hid (RN.out.below hb')
  replace RO := Lib.hid (RO.out.below hb')
  replace RF := Lib.hid (RF.out.below hb')
  replace RE := Lib.hid (RE.out.below hb')
  replace BB := Lib.hid (BB.out.trans (hb'.mono BB.out.size))
  have Xb9 := Lib.hid x'
  have HV7 := Lib.hid hV7; have Eb9 := Lib.hid hb9
  clear hb' x' hV7 hb9
  obtain ⟨b10, hb10⟩ : ∃ b, b = V7.heap.size := ⟨_, rfl⟩
  obtain ⟨V8, hV8⟩ : ∃ V, V7.alloc (.cells #[.slice NC k ne, .slice OC k oe] 30) = V := ⟨_, rfl⟩
  have hb' : Below V7.heap.size V7 V8 := by rw [<- hV8]; exact (Below.refl _ _).alloc (Nat.le_refl _) _
  have x' : Blk V8 b10 30 #[.slice NC k ne, .slice OC k oe] := by rw [<- hV8, hb10]; exact Blk.new _ _ _
  replace RI := Lib.hid (RI.out.below hb')
  replace RN := Lib.hid (RN.out.below hb')
  replace RO := Lib.hid (RO.out.below hb')
  replace RF := Lib.hid (RF.out.below hb')
  replace RE := Lib.hid (RE.out.below hb')
  replace Xb9 := Lib.hid (Blk.below Xb9.out hb' Xb9.out.lt)
  replace BB := Lib.hid (BB.out.trans (hb'.mono BB.out.size))
  have Xb10 := Lib.hid x'
  have HV8 := Lib.hid hV8; have Eb10 := Lib.hid hb10
  clear hb' x' hV8 hb10
  have e8 : b9 + 1 = b10 := by
   have := Eb10.out
   rw [<- HV7.out] at this
   rw [World.size_alloc, <- Eb9.out] at this
   exact this.symm
  have HB8 : Hid (Below V8.heap.size V8 V8) := Lib.hid (Below.refl _ _)
  go_wp2_with fail
  rw [HV7.out, HV8.out, <- Eb9.out, e8]
  refine (back_any RN.out HTL.out HT.out RO.out (by omega) (by omega) (fun x => by have := HO2.out x; omega)).mono ?_
  rintro e w4 ⟨vn, vo, gn, f, rfl, -, hn, ho, hm, hb⟩
  obtain ⟨r, hr⟩ : ∃ r, (repN T (EF f)).length = r := ⟨_, rfl⟩
  rw [hr] at hn ho
  obtain ⟨cv, hcv⟩ := hn.shape (Nat.le_refl _)
  obtain ⟨cn, hcn⟩ : ∃ cn : Nat -> Nat, (fun i => ((xssN (rowsN T (EF f) (repN T (EF f)))).getD i (0, [])).1) = cn := ⟨_, rfl⟩
  rw [hcn] at hcv
  obtain ⟨CA, cc, e, lcc1, lcc2⟩ := RowS.form ⟨_, hcv.1⟩
  subst e
  obtain ⟨CO, co, e, lco1, lco2⟩ := RowS.form ⟨_, ho⟩
  subst e
  have HC := Lib.hid hcv
  have HN5 : Hid (RowS w4 V8.heap.size 3 1 (sl gn k k) k) := Lib.hid ⟨_, hm⟩
  replace HB8 := Lib.hid (HB8.out.trans (hb.mono HB8.out.size))
  clear hr hn ho hm hcv hcn hb
  obtain ⟨b11, hb11⟩ : ∃ b, b = w4.heap.size := ⟨_, rfl⟩
  obtain ⟨V11, hV11⟩ : ∃ V, w4.alloc (.cells #[.slice CA r cc, .slice CO r co] 26) = V := ⟨_, rfl⟩
  have hb' : Below w4.heap.size w4 V11 := by rw [<- hV11]; exact (Below.refl _ _).alloc (Nat.le_refl _) _
  have x' : Blk V11 b11 26 #[.slice CA r cc, .slice CO r co] := by rw [<- hV11, hb11]; exact Blk.new _ _ _
  replace HC := Lib.hid (HC.out.below hb')
  replace HN5 := Lib.hid (HN5.out.below hb')
  replace HB8 := Lib.hid (HB8.out.trans (hb'.mono HB8.out.size))
  have Xb11 := Lib.hid x'
  have HV11 := Lib.hid hV11; have Eb11 := Lib.hid hb11
  clear hb' x' hV11 hb11
  have c100 := bel_m HB8.out (Xb10.out.cell 0); have c101 := bel_m HB8.out (Xb10.out.cell 1)
  rw [<- HV11.out] at c100 c101
  go_wp2_with fail
  rw [HV11.out, <- Eb11.out]
  clear c100 c101
  refine (fwd_any (RF.out.below HB8.out) HTL.out HT.out (RE.out.below HB8.out) HEL.out HE2.out (by omega) HEI.out (by omega) (by omega)).mono ?_
  rintro e w6 ⟨vn, vo, gm, f2, rfl, -, hn, ho, -, hb⟩
  obtain ⟨s, hs⟩ : ∃ s, (repN T (EF f2)).length = s := ⟨_, rfl⟩
  rw [hs] at hn ho
  have hB9 := HB8.out.size
  obtain ⟨gv, hgv⟩ := hn.shape hB9
  obtain ⟨ev, hev⟩ := ho.shape hB9
  obtain ⟨en, hen⟩ : ∃ en : Nat -> Nat, (fun i => ((xssV E (repN T (EF f2))).getD i (0, [])).1) = en := ⟨_, rfl⟩
  rw [hen] at hev
  obtain ⟨GA, gc, e, lgc1, lgc2⟩ := RowS.form ⟨_, hgv.1⟩
  subst e
  obtain ⟨GE, ge, e, lge1, lge2⟩ := RowS.form ⟨_, hev.1⟩
  subst e
  have HE5 := Lib.hid hev
  replace HB8 := Lib.hid (HB8.out.trans (hb.mono HB8.out.size))
  replace HC := Lib.hid (HC.out.below hb)
  replace HN5 := Lib.hid (HN5.out.below hb)
  replace Xb11 := Lib.hid (Blk.below Xb11.out hb Xb11.out.lt)
  clear hs hn ho hgv hev hen hb hB9
  obtain ⟨b13, hb13⟩ : ∃ b, b = w6.heap.size := ⟨_, rfl⟩
  obtain ⟨V13, hV13⟩ : ∃ V, w6.alloc (.cells #[.slice GA s gc, .slice GE s ge] 30) = V := ⟨_, rfl⟩
  have hb' : Below w6.heap.size w6 V13 := by rw [<- hV13]; exact (Below.refl _ _).alloc (Nat.le_refl _) _
  have x' : Blk V13 b13 30 #[.slice GA s gc, .slice GE s ge] := by rw [<- hV13, hb13]; exact Blk.new _ _ _
  replace HC := Lib.hid (HC.out.below hb')
  replace HN5 := Lib.hid (HN5.out.below hb')
  replace HE5 := Lib.hid (HE5.out.below hb')
  replace Xb11 := Lib.hid (Blk.below Xb11.out hb' Xb11.out.lt)
  replace HB8 := Lib.hid (HB8.out.trans (hb'.mono HB8.out.size))
  have Xb13 := Lib.hid x'
  have HV13 := Lib.hid hV13; have Eb13 := Lib.hid hb13
  clear hb' x' hV13 hb13
  have c100 := bel_m HB8.out (Xb10.out.cell 0); have c101 := bel_m HB8.out (Xb10.out.cell 1)
  rw [<- HV13.out] at c100 c101
  obtain ⟨b14, hb14⟩ : ∃ b, b = V13.heap.size := ⟨_, rfl⟩
  obtain ⟨V14, hV14⟩ : ∃ V, V13.alloc (.cells #[.int .i64 1, .int .i64 0] 3) = V := ⟨_, rfl⟩
  have hb' : Below V13.heap.size V13 V14 := by rw [<- hV14]; exact (Below.refl _ _).alloc (Nat.le_refl _) _
  have x' : Blk V14 b14 3 #[.int .i64 1, .int .i64 0] := by rw [<- hV14, hb14]; exact Blk.new _ _ _
  replace HC := Lib.hid (HC.out.below hb')
  replace HN5 := Lib.hid (HN5.out.below hb')
  replace HE5 := Lib.hid (HE5.out.below hb')
  replace Xb11 := Lib.hid (Blk.below Xb11.out hb' Xb11.out.lt)
  replace Xb13 := Lib.hid (Blk.below Xb13.out hb' Xb13.out.lt)
  replace HB8 := Lib.hid (HB8.out.trans (hb'.mono HB8.out.size))
  have Xb14 := Lib.hid x'
  have HV14 := Lib.hid hV14; have Eb14 := Lib.hid hb14
  clear hb' x' hV14 hb14
  have e14 : b13 + 1 = b14 := by
   have := Eb14.out
   rw [<- HV13.out] at this
   rw [World.size_alloc, <- Eb13.out] at this
   exact this.symm
  go_wp2_with fail
  rw [HV13.out, HV14.out, <- Eb13.out, e14]
  clear c100 c101
  refine (pick_any (q := 2) (l := 2) (lc := 2) (ls := [1, 0]) (RF.out.below HB8.out) HTL.out HT.out (RE.out.below HB8.out) HEL.out HE2.out (by omega) (readsI_blk (l := [1, 0]) Xb14.out (by decide)) (by decide) (by omega) (by omega) (by omega)).mono ?_
  rintro e w7 ⟨vn, vo, rfl, hn, ho, hb⟩
  have hB9 := HB8.out.size
  obtain ⟨pv, hpv⟩ := hn.shape hB9
  obtain ⟨pe', hpe⟩ := ho.shape hB9
  obtain ⟨pn, hpn⟩ : ∃ pn : Nat -> Nat, (fun i => ((xssT T k).getD i (0, [])).1) = pn := ⟨_, rfl⟩
  rw [hpn] at hpv
  obtain ⟨PA, pc, e, lpc1, lpc2⟩ := RowS.form ⟨_, hpv.1⟩
  subst e
  obtain ⟨PE, pe, e, lpe1, lpe2⟩ := RowS.form ⟨_, hpe.1⟩
  subst e
  have HP5 := Lib.hid hpv
  replace HB8 := Lib.hid (HB8.out.trans (hb.mono HB8.out.size))
  replace HC := Lib.hid (HC.out.below hb)
  replace HN5 := Lib.hid (HN5.out.below hb)
  replace HE5 := Lib.hid (HE5.out.below hb)
  replace Xb11 := Lib.hid (Blk.below Xb11.out hb Xb11.out.lt)
  replace Xb13 := Lib.hid (Blk.below Xb13.out hb Xb13.out.lt)
  clear hn ho hpv hpe hpn hb hB9 Xb14
  obtain ⟨b15, hb15⟩ : ∃ b, b = w7.heap.size := ⟨_, rfl⟩
  obtain ⟨V15, hV15⟩ : ∃ V, w7.alloc (.cells #[.slice PA k pc, .slice PE k pe] 30) = V := ⟨_, rfl⟩
  have hb' : Below w7.heap.size w7 V15 := by rw [<- hV15]; exact (Below.refl _ _).alloc (Nat.le_refl _) _
  have x' : Blk V15 b15 30 #[.slice PA k pc, .slice PE k pe] := by rw [<- hV15, hb15]; exact Blk.new _ _ _
  replace HC := Lib.hid (HC.out.below hb')
  replace HN5 := Lib.hid (HN5.out.below hb')
  replace HE5 := Lib.hid (HE5.out.below hb')
  replace HP5 := Lib.hid (HP5.out.below hb')
  replace Xb11 := Lib.hid (Blk.below Xb11.out hb' Xb11.out.lt)
  replace Xb13 := Lib.hid (Blk.below Xb13.out hb' Xb13.out.lt)
  replace HB8 := Lib.hid (HB8.out.trans (hb'.mono HB8.out.size))
  have Xb15 := Lib.hid x'
  have HV15 := Lib.hid hV15; have Eb15 := Lib.hid hb15
  clear hb' x' hV15 hb15
  have HJ : Hid (OwnSt V8.heap.size V8 V15 b11 (.slice CA r cc) (.slice CO r co) r cv cn (sl gn k k) k b13 (.slice GA s gc) (.slice GE s ge) s ev en b15 (.slice PA k pc) (.slice PE k pe) pv pn) := Lib.hid ⟨HB8.out, Xb11.out, HC.out, HN5.out, Xb13.out, HE5.out, Xb15.out, HP5.out⟩
  clear HB8 Xb11 HC HN5 Xb13 HE5 Xb15 HP5
  unfold maxLen at *
  go_wp2_with fail
  rw [HV15.out, <- Eb15.out]
  go_loopw [16] (fun vi wr => ∃ i : Nat, vi = .int .i64 (i : Int) /\ i <= r /\ Hid (OwnSt V8.heap.size V8 wr b11 (.slice CA r cc) (.slice CO r co) r cv cn (sl gn k k) k b13 (.slice GA s gc) (.slice GE s ge) s ev en b15 (.slice PA k pc) (.slice PE k pe) pv pn)) (fun vi _ => r - (intOf vi).toNat)
  case atStart => exact ⟨0, rfl, Nat.zero_le _, HJ⟩
  case round =>
   clear HJ
   obtain ⟨i, rfl, hi, HJ⟩ := hrel
   have i0 : (0 : Int) <= (i : Int) := Int.natCast_nonneg _
   have cx := HJ.out.x11.cell 0
   simp only [List.getElem?_toArray, List.getElem?_cons_zero, List.getElem?_cons_succ] at cx
   by_cases hlt : i < r
   ·have i1 : (i : Int) < (r : Int) := by omega
    have t1 : decide (i < r) = true := by simpa using hlt
    obtain ⟨g, A1, c1, e0, hv, l91, l92⟩ := HJ.out.c.at_ hlt
    subst e0
    obtain ⟨m, hm⟩ : ∃ m, cn i = m := ⟨_, rfl⟩
    rw [hm] at hv l91
    have HV := Lib.hid hv; have HM := Lib.hid hm
    clear hv hm
    unfold maxLen at l92
    go_wp2_with fail
    clear cx
    obtain ⟨wo, hwo⟩ : ∃ wo, wo = wr := ⟨_, rfl⟩
    clear hwo
    go_loopw [17] (fun vj wr => ∃ j : Nat, vj = .int .i64 (j : Int) /\ j <= m /\ Hid (OwnSt V8.heap.size V8 wr b11 (.slice (some ⟨g, 0, none⟩) r cc) (.slice CO r co) r cv cn (sl gn k k) k b13 (.slice GA s gc) (.slice GE s ge) s ev en b15 (.slice PA k pc) (.slice PE k pe) pv pn)) (fun vj _ => m - (intOf vj).toNat)
    case atStart => exact ⟨0, rfl, Nat.zero_le _, HJ⟩
    case round =>
     clear HJ
     obtain ⟨j, rfl, hj, HJ⟩ := hrel
     have j0 : (0 : Int) <= (j : Int) := Int.natCast_nonneg _
     have cx := HJ.out.x11.cell 0
     simp only [List.getElem?_toArray, List.getElem?_cons_zero, List.getElem?_cons_succ] at cx
     have cy := HJ.out.c.cell hlt
     rw [HV.out] at cy
     by_cases hlj : j < m
     ·have j1 : (j : Int) < (m : Int) := by omega
      have t2 : decide (j < m) = true := by simpa using hlj
      have t3 : decide (m <= j) = false := by simpa using hlj
      have hr := HJ.out.c.2 i hlt
      rw [HV.out, HM.out] at hr
      obtain ⟨g2, x2, e2, -, -, -, d0, f0⟩ := hr.ptr (j := j) (by omega)
      subst e2
      have HR := Lib.hid hr
      clear hr
      go_wp2_with fail
      exact ⟨⟨j + 1, by go_num, by omega, Lib.hid (HJ.out.store HR.out (.inl rfl) j _)⟩, by simp [intOf]; omega⟩
     ·obtain rfl : m = j := by omega
      go_wp2_with fail
      exact ⟨⟨i + 1, by go_num, by omega, HJ⟩, by simp [intOf]; omega⟩
   ·obtain rfl : r = i := by omega
    go_wp2_with fail
    clear cx
    obtain ⟨wo, hwo⟩ : ∃ wo, wo = wr := ⟨_, rfl⟩
    clear hwo
    go_loopw [18] (fun vi wr => ∃ i : Nat, vi = .int .i64 (i : Int) /\ i <= k /\ Hid (OwnSt V8.heap.size V8 wr b11 (.slice CA r cc) (.slice CO r co) r cv cn (sl gn k k) k b13 (.slice GA s gc) (.slice GE s ge) s ev en b15 (.slice PA k pc) (.slice PE k pe) pv pn)) (fun vi _ => k - (intOf vi).toNat)
    case atStart => exact ⟨0, rfl, Nat.zero_le _, HJ⟩
    case round =>
     clear HJ
     obtain ⟨i, rfl, hi, HJ⟩ := hrel
     have i0 : (0 : Int) <= (i : Int) := Int.natCast_nonneg _
     by_cases hlt : i < k
     ·have i1 : (i : Int) < (k : Int) := by omega
      have t1 : decide (i < k) = true := by simpa using hlt
      have t3 : decide (k <= i) = false := by simpa using hlt
      have hr := HJ.out.n
      obtain ⟨g2, x2, e2, -, -, -, d0, f0⟩ := hr.ptr (j := i) (by omega)
      simp only [Option.some.injEq, Addr.mk.injEq, and_true] at e2
      subst e2
      have HR := Lib.hid hr
      clear hr
      go_wp2_with fail
      exact ⟨⟨i + 1, by go_num, by omega, Lib.hid (HJ.out.store HR.out (.inl rfl) i _)⟩, by simp [intOf]; omega⟩
     ·obtain rfl : k = i := by omega
      go_wp2_with fail
      obtain ⟨wo, hwo⟩ : ∃ wo, wo = wr := ⟨_, rfl⟩
      clear hwo
      go_loopw [19] (fun vi wr => ∃ i : Nat, vi = .int .i64 (i : Int) /\ i <= s /\ Hid (OwnSt V8.heap.size V8 wr b11 (.slice CA r cc) (.slice CO r co) r cv cn (sl gn k k) k b13 (.slice GA s gc) (.slice GE s ge) s ev en b15 (.slice PA k pc) (.slice PE k pe) pv pn)) (fun vi _ => s - (intOf vi).toNat)
      case atStart => exact ⟨0, rfl, Nat.zero_le _, HJ⟩
      case round =>
       clear HJ
       obtain ⟨i, rfl, hi, HJ⟩ := hrel
       have i0 : (0 : Int) <= (i : Int) := Int.natCast_nonneg _
       have cx := HJ.out.x13.cell 1
       simp only [List.getElem?_toArray, List.getElem?_cons_zero, List.getElem?_cons_succ] at cx
       by_cases hlt : i < s
       ·have i1 : (i : Int) < (s : Int) := by omega
        have t1 : decide (i < s) = true := by simpa using hlt
        obtain ⟨g, A1, c1, e0, hv, l91, l92⟩ := HJ.out.e.at_ hlt
        subst e0
        obtain ⟨m, hm⟩ : ∃ m, en i = m := ⟨_, rfl⟩
        rw [hm] at hv l91
        have HV := Lib.hid hv; have HM := Lib.hid hm
        clear hv hm
        unfold maxLen at l92
        go_wp2_with fail
        clear cx
        obtain ⟨wo, hwo⟩ : ∃ wo, wo = wr := ⟨_, rfl⟩
        clear hwo
        go_loopw [20] (fun vj wr => ∃ j : Nat, vj = .int .i64 (j : Int) /\ j <= m /\ Hid (OwnSt V8.heap.size V8 wr b11 (.slice CA r cc) (.slice CO r co) r cv cn (sl gn k k) k b13 (.slice GA s gc) (.slice (some ⟨g, 0, none⟩) s ge) s ev en b15 (.slice PA k pc) (.slice PE k pe) pv pn)) (fun vj _ => m - (intOf vj).toNat)
        case atStart => exact ⟨0, rfl, Nat.zero_le _, HJ⟩
        case round =>
         clear HJ
         obtain ⟨j, rfl, hj, HJ⟩ := hrel
         have j0 : (0 : Int) <= (j : Int) := Int.natCast_nonneg _
         have cx := HJ.out.x13.cell 1
         simp only [List.getElem?_toArray, List.getElem?_cons_zero, List.getElem?_cons_succ] at cx
         have cy := HJ.out.e.cell hlt
         rw [HV.out] at cy
         by_cases hlj : j < m
         ·have j1 : (j : Int) < (m : Int) := by omega
          have t2 : decide (j < m) = true := by simpa using hlj
          have t3 : decide (m <= j) = false := by simpa using hlj
          have hr := HJ.out.e.2 i hlt
          rw [HV.out, HM.out] at hr
          obtain ⟨g2, x2, e2, -, -, -, d0, f0⟩ := hr.ptr (j := j * 3) (by omega)
          obtain ⟨g3, x3, e3, -, -, -, d1, f1⟩ := hr.ptr (j := j * 3 + 1) (by omega)
          obtain ⟨g4, x4, e4, -, -, -, d2, f2⟩ := hr.ptr (j := j * 3 + 2) (by omega)
          subst e2
          simp only [Option.some.injEq, Addr.mk.injEq, and_true] at e3 e4
          subst e3 e4
          have HR := Lib.hid hr
          clear hr
          go_wp2_with fail
          have h1 := HJ.out.store HR.out (.inr rfl) (j * 3) (.int .i64 0)
          have h2 := h1.store (HR.out.set_ g2 (j * 3) (.int .i64 0)) (.inr rfl) (j * 3 + 1) (.int .i64 0)
          have h3 := h2.store ((HR.out.set_ g2 (j * 3) (.int .i64 0)).set_ g2 (j * 3 + 1) (.int .i64 0)) (.inr rfl) (j * 3 + 2) (.int .i64 0)
          exact ⟨⟨j + 1, by go_num, by omega, Lib.hid h3⟩, by simp [intOf]; omega⟩
         ·obtain rfl : m = j := by omega
          go_wp2_with fail
          exact ⟨⟨i + 1, by go_num, by omega, HJ⟩, by simp [intOf]; omega⟩
       ·obtain rfl : s = i := by omega
        go_wp2_with fail
        clear cx
        obtain ⟨wo, hwo⟩ : ∃ wo, wo = wr := ⟨_, rfl⟩
        clear hwo
        go_loopw [21] (fun vi wr => ∃ i : Nat, vi = .int .i64 (i : Int) /\ i <= k /\ Hid (OwnSt V8.heap.size V8 wr b11 (.slice CA r cc) (.slice CO r co) r cv cn (sl gn k k) k b13 (.slice GA s gc) (.slice GE s ge) s ev en b15 (.slice PA k pc) (.slice PE k pe) pv pn)) (fun vi _ => k - (intOf vi).toNat)
        case atStart => exact ⟨0, rfl, Nat.zero_le _, HJ⟩
        case round =>
         clear HJ
         obtain ⟨i, rfl, hi, HJ⟩ := hrel
         have i0 : (0 : Int) <= (i : Int) := Int.natCast_nonneg _
         have cx := HJ.out.x15.cell 0
         simp only [List.getElem?_toArray, List.getElem?_cons_zero, List.getElem?_cons_succ] at cx
         by_cases hlt : i < k
         ·have i1 : (i : Int) < (k : Int) := by omega
          have t1 : decide (i < k) = true := by simpa using hlt
          obtain ⟨g, A1, c1, e0, hv, l91, l92⟩ := HJ.out.p.at_ hlt
          subst e0
          obtain ⟨m, hm⟩ : ∃ m, pn i = m := ⟨_, rfl⟩
          rw [hm] at hv l91
          have HV := Lib.hid hv; have HM := Lib.hid hm
          clear hv hm
          unfold maxLen at l92
          go_wp2_with fail
          clear cx
          obtain ⟨wo, hwo⟩ : ∃ wo, wo = wr := ⟨_, rfl⟩
          clear hwo
          go_loopw [22] (fun vj wr => ∃ j : Nat, vj = .int .i64 (j : Int) /\ j <= m /\ Hid (OwnSt V8.heap.size V8 wr b11 (.slice CA r cc) (.slice CO r co) r cv cn (sl gn k k) k b13 (.slice GA s gc) (.slice GE s ge) s ev en b15 (.slice (some ⟨g, 0, none⟩) k pc) (.slice PE k pe) pv pn)) (fun vj _ => m - (intOf vj).toNat)
          case atStart => exact ⟨0, rfl, Nat.zero_le _, HJ⟩
          case round =>
           clear HJ
           obtain ⟨j, rfl, hj, HJ⟩ := hrel
           have j0 : (0 : Int) <= (j : Int) := Int.natCast_nonneg _
           have cx := HJ.out.x15.cell 0
           simp only [List.getElem?_toArray, List.getElem?_cons_zero, List.getElem?_cons_succ] at cx
           have cy := HJ.out.p.cell hlt
           rw [HV.out] at cy
           by_cases hlj : j < m
           ·have j1 : (j : Int) < (m : Int) := by omega
            have t2 : decide (j < m) = true := by simpa using hlj
            have t3 : decide (m <= j) = false := by simpa using hlj
            have hr := HJ.out.p.2 i hlt
            rw [HV.out, HM.out] at hr
            obtain ⟨g2, x2, e2, -, -, -, d0, f0⟩ := hr.ptr (j := j) (by omega)
            subst e2
            have HR := Lib.hid hr
            clear hr
            go_wp2_with fail
            exact ⟨⟨j + 1, by go_num, by omega, Lib.hid (HJ.out.store HR.out (.inl rfl) j _)⟩, by simp [intOf]; omega⟩
           ·obtain rfl : m = j := by omega
            go_wp2_with fail
            exact ⟨⟨i + 1, by go_num, by omega, HJ⟩, by simp [intOf]; omega⟩
         ·obtain rfl : k = i := by omega
          have HB := Lib.hid HJ.out.bel
          replace RI := Lib.hid (RI.out.below HB.out)
          replace RN := Lib.hid (RN.out.below HB.out)
          replace RO := Lib.hid (RO.out.below HB.out)
          replace RF := Lib.hid (RF.out.below HB.out)
          replace RE := Lib.hid (RE.out.below HB.out)
          replace Xb9 := Lib.hid (Blk.below Xb9.out HB.out Xb9.out.lt)
          replace Xb10 := Lib.hid (Blk.below Xb10.out HB.out Xb10.out.lt)
          replace BB := Lib.hid (BB.out.trans (HB.out.mono BB.out.size))
          clear HJ HB
          have cb90 := Xb9.out.cell 0; have cb91 := Xb9.out.cell 1
          simp only [List.getElem?_toArray, List.getElem?_cons_zero, List.getElem?_cons_succ] at cb90 cb91
          go_wp2_with fail
          clear cx
          obtain ⟨wo, hwo⟩ : ∃ wo, wo = wr := ⟨_, rfl⟩
          clear hwo
          clear cb90 cb91
          refine (back_mach RN.out HTL.out HT.out RO.out (by omega) (by omega) (fun x => by have := HO2.out x; omega)).mono ?_
          rintro e w10 ⟨NB, nd, OB, od, gz, f2, r2, rfl, hM, hQ, hQO, hNM, l25, l26, l27, l28, hb⟩
          have MM := Lib.hid (hM)
          have RQ := Lib.hid (hQ)
          have RQO := Lib.hid (hQO)
          have RM := Lib.hid (hNM)
          replace RI := Lib.hid (RI.out.below hb)
          replace RN := Lib.hid (RN.out.below hb)
          replace RO := Lib.hid (RO.out.below hb)
          replace RF := Lib.hid (RF.out.below hb)
          replace RE := Lib.hid (RE.out.below hb)
          replace BB := Lib.hid (BB.out.trans (hb.mono BB.out.size))
          replace Xb9 := Lib.hid (Blk.below Xb9.out hb Xb9.out.lt)
          replace Xb10 := Lib.hid (Blk.below Xb10.out hb Xb10.out.lt)
          have HQL := Lib.hid hM.qlen
          have hr9 : r2 <= k := by have := hM.le; rw [HTL.out] at this; exact this
          clear hM hQ hQO hNM hb
          obtain ⟨b23, hb23⟩ : ∃ b, b = w10.heap.size := ⟨_, rfl⟩
          obtain ⟨V23, hV23⟩ : ∃ V, w10.alloc (.cells #[.slice NB r2 nd, .slice OB r2 od] 26) = V := ⟨_, rfl⟩
          have hb' : Below w10.heap.size w10 V23 := by rw [<- hV23]; exact (Below.refl _ _).alloc (Nat.le_refl _) _
          have x' : Blk V23 b23 26 #[.slice NB r2 nd, .slice OB r2 od] := by rw [<- hV23, hb23]; exact Blk.new _ _ _
          replace RI := Lib.hid (RI.out.below hb')
          replace RN := Lib.hid (RN.out.below hb')
          replace RO := Lib.hid (RO.out.below hb')
          replace RF := Lib.hid (RF.out.below hb')
          replace RE := Lib.hid (RE.out.below hb')
          replace RQ := Lib.hid (RQ.out.below hb')
          replace RQO := Lib.hid (RQO.out.below hb')
          replace RM := Lib.hid (RM.out.below hb')
          replace Xb9 := Lib.hid (Blk.below Xb9.out hb' Xb9.out.lt)
          replace Xb10 := Lib.hid (Blk.below Xb10.out hb' Xb10.out.lt)
          replace BB := Lib.hid (BB.out.trans (hb'.mono BB.out.size))
          have Xb23 := Lib.hid x'
          have HV23 := Lib.hid hV23; have Eb23 := Lib.hid hb23
          clear hb' x' hV23 hb23
          go_wp2_with fail
          rw [HV23.out, <- Eb23.out]
          refine (lawB_mach RI.out a0 a1 HK.out HN.out).mono ?_
          rintro e w11 ⟨NY, ny, OY, oy, rfl, hN, hO, l34, l35, l36, l37, hb⟩
          have SN := Lib.hid (hN)
          have SO := Lib.hid (hO)
          replace RI := Lib.hid (RI.out.below hb)
          replace RN := Lib.hid (RN.out.below hb)
          replace RO := Lib.hid (RO.out.below hb)
          replace RF := Lib.hid (RF.out.below hb)
          replace RE := Lib.hid (RE.out.below hb)
          replace RQ := Lib.hid (RQ.out.below hb)
          replace RQO := Lib.hid (RQO.out.below hb)
          replace RM := Lib.hid (RM.out.below hb)
          replace BB := Lib.hid (BB.out.trans (hb.mono BB.out.size))
          replace Xb9 := Lib.hid (Blk.below Xb9.out hb Xb9.out.lt)
          replace Xb10 := Lib.hid (Blk.below Xb10.out hb Xb10.out.lt)
          replace Xb23 := Lib.hid (Blk.below Xb23.out hb Xb23.out.lt)
          rw [ET.out] at SN
          rw [EO.out] at SO
          clear hN hO hb
          go_wp2_with fail
          refine (rback_mach SN.out HTL.out HT.out SO.out (by omega) (by omega) (by omega) (fun x => by have := HO2.out x; omega)).mono ?_
          rintro e w12 ⟨NX, nx, OX, ox, GX, gx, f3, r3, rfl, hM, hQ, hQO, hNM, m5, m6, m7, m8, hb⟩
          have SQ := Lib.hid (hQ)
          have SQO := Lib.hid (hQO)
          have SM := Lib.hid (hNM)
          replace RI := Lib.hid (RI.out.below hb)
          replace RN := Lib.hid (RN.out.below hb)
          replace RO := Lib.hid (RO.out.below hb)
          replace RF := Lib.hid (RF.out.below hb)
          replace RE := Lib.hid (RE.out.below hb)
          replace RQ := Lib.hid (RQ.out.below hb)
          replace RQO := Lib.hid (RQO.out.below hb)
          replace RM := Lib.hid (RM.out.below hb)
          replace BB := Lib.hid (BB.out.trans (hb.mono BB.out.size))
          replace Xb9 := Lib.hid (Blk.below Xb9.out hb Xb9.out.lt)
          replace Xb10 := Lib.hid (Blk.below Xb10.out hb Xb10.out.lt)
          replace Xb23 := Lib.hid (Blk.below Xb23.out hb Xb23.out.lt)
          obtain ⟨er, erep, equo, enm⟩ := mach_one MM.out hM
          obtain rfl : r3 = r2 := er
          rw [equo] at SQ
          have eqo : quoO T f3 O = quoO T f2 O := by unfold quoO; rw [erep]
          rw [eqo] at SQO
          have enz : rowZ k (nameN T (EF f3)) = rowZ k (nameN T (EF f2)) := rowZ_eq fun s hs => enm s (by rw [HTL.out]; exact hs)
          rw [enz] at SM
          clear hM hQ hQO hNM hb erep equo enm eqo enz MM SN SO
          obtain ⟨b25, hb25⟩ : ∃ b, b = w12.heap.size := ⟨_, rfl⟩
          obtain ⟨V25, hV25⟩ : ∃ V, w12.alloc (.cells #[.slice NX r3 nx, .slice OX r3 ox] 26) = V := ⟨_, rfl⟩
          have hb' : Below w12.heap.size w12 V25 := by rw [<- hV25]; exact (Below.refl _ _).alloc (Nat.le_refl _) _
          have x' : Blk V25 b25 26 #[.slice NX r3 nx, .slice OX r3 ox] := by rw [<- hV25, hb25]; exact Blk.new _ _ _
          replace RI := Lib.hid (RI.out.below hb')
          replace RN := Lib.hid (RN.out.below hb')
          replace RO := Lib.hid (RO.out.below hb')
          replace RF := Lib.hid (RF.out.below hb')
          replace RE := Lib.hid (RE.out.below hb')
          replace RQ := Lib.hid (RQ.out.below hb')
          replace RQO := Lib.hid (RQO.out.below hb')
          replace RM := Lib.hid (RM.out.below hb')
          replace SQ := Lib.hid (SQ.out.below hb')
          replace SQO := Lib.hid (SQO.out.below hb')
          replace SM := Lib.hid (SM.out.below hb')
          replace Xb9 := Lib.hid (Blk.below Xb9.out hb' Xb9.out.lt)
          replace Xb10 := Lib.hid (Blk.below Xb10.out hb' Xb10.out.lt)
          replace Xb23 := Lib.hid (Blk.below Xb23.out hb' Xb23.out.lt)
          replace BB := Lib.hid (BB.out.trans (hb'.mono BB.out.size))
          have Xb25 := Lib.hid x'
          have HV25 := Lib.hid hV25; have Eb25 := Lib.hid hb25
          clear hb' x' hV25 hb25
          have HKS : Hid (∀ W, Below V25.heap.size V25 W -> (fun W : World => W.cell? ⟨b9, 0, none⟩ = some (.slice NA k nc) /\ W.cell? ⟨b9, 1, none⟩ = some (.slice OA k oc) /\ W.cell? ⟨b10, 0, none⟩ = some (.slice NC k ne) /\ W.cell? ⟨b10, 1, none⟩ = some (.slice OC k oe) /\ W.cell? ⟨b23, 0, none⟩ = some (.slice NB r3 nd) /\ W.cell? ⟨b23, 1, none⟩ = some (.slice OB r3 od) /\ W.cell? ⟨b25, 0, none⟩ = some (.slice NX r3 nx) /\ W.cell? ⟨b25, 1, none⟩ = some (.slice OX r3 ox)) W) := Lib.hid (fun W hW => ⟨bel_m hW (Xb9.out.cell 0), bel_m hW (Xb9.out.cell 1), bel_m hW (Xb10.out.cell 0), bel_m hW (Xb10.out.cell 1), bel_m hW (Xb23.out.cell 0), bel_m hW (Xb23.out.cell 1), bel_m hW (Xb25.out.cell 0), bel_m hW (Xb25.out.cell 1)⟩)
          clear Xb9 Xb10 Xb23 Xb25
          go_wp2_with fail
          rw [HV25.out, <- Eb25.out]
          have hb : Below V25.heap.size V25 V25.drew := (Below.refl _ _).drew
          have hS := HKS.out _ hb
          refine region_x 24 (fun W : World => W.cell? ⟨b9, 0, none⟩ = some (.slice NA k nc) /\ W.cell? ⟨b9, 1, none⟩ = some (.slice OA k oc) /\ W.cell? ⟨b10, 0, none⟩ = some (.slice NC k ne) /\ W.cell? ⟨b10, 1, none⟩ = some (.slice OC k oe) /\ W.cell? ⟨b23, 0, none⟩ = some (.slice NB r3 nd) /\ W.cell? ⟨b23, 1, none⟩ = some (.slice OB r3 od) /\ W.cell? ⟨b25, 0, none⟩ = some (.slice NX r3 nx) /\ W.cell? ⟨b25, 1, none⟩ = some (.slice OX r3 ox)) (by kernel_rfl) ?_
          generalize V25.drew = V0 at *
          refine tkx (i := 0) (v := ?_) hS ?_ ?_
          rotate_left
          ·rintro w' ⟨s0', s1', s2', s3', s4', s5', s6', s7'⟩
           go_simp
           try with_reducible rfl
          try simp only [Act.put, zq1, zq2, zq3, zq4, zq5, zq6]
          refine tkx (i := 1) (v := ?_) hS ?_ ?_
          rotate_left
          ·rintro w' ⟨s0', s1', s2', s3', s4', s5', s6', s7'⟩
           go_simp
           try with_reducible rfl
          try simp only [Act.put, zq1, zq2, zq3, zq4, zq5, zq6]
          refine tkx (i := 2) (v := ?_) hS ?_ ?_
          rotate_left
          ·rintro w' ⟨s0', s1', s2', s3', s4', s5', s6', s7'⟩
           go_simp
           try with_reducible rfl
          try simp only [Act.put, zq1, zq2, zq3, zq4, zq5, zq6]
          refine tkx (i := 3) (v := ?_) hS ?_ ?_
          rotate_left
          ·rintro w' ⟨s0', s1', s2', s3', s4', s5', s6', s7'⟩
           go_simp
           try with_reducible rfl
          try simp only [Act.put, zq1, zq2, zq3, zq4, zq5, zq6]
          refine anyX_g (i := 4) (by kernel_rfl) (by decide) rfl (by rfl) ?_
          intro K hK
          try simp only [zq1, zq2, zq3]
          refine wp_enterE #[.int .i64 a0, .int .i64 a1, .slice a2 len2 cap2] Try.func14 (by kernel_rfl) (by kernel_rfl) ?_ (lawB_mach (RI.out.below hb) a0 a1 HK.out HN.out) ?_
          ·go_simp
          rintro e V1 ⟨NY, ny, OY, oy, rfl, hN2, hO2', l34, l35, l36, l37, hbn⟩
          rw [ET.out] at hN2
          rw [EO.out] at hO2'
          refine ⟨_, rfl, ?_⟩
          replace hb := hb.trans (hbn.mono hb.size)
          clear hbn
          replace hS := HKS.out _ hb
          refine hK _ _ hS ?_
          clear hK
          try simp only [Act.put, zq1, zq2, zq3, zq4, zq5, zq6]
          refine anyX_g (i := 5) (by kernel_rfl) (by decide) rfl (by rfl) ?_
          intro K hK
          try simp only [zq1, zq2, zq3]
          refine wp_enterE #[.agg #[.slice NA k nc, .slice OA k oc], .agg #[.slice NY k ny, .slice OY k oy]] Try.func20 (by kernel_rfl) (by kernel_rfl) ?_ (bsame_true (RN.out.below hb) hN2 (RO.out.below hb) hO2' HTL.out) ?_
          ·go_simp
          rintro e V2 ⟨rfl, hbn⟩
          clear hN2 hO2'
          refine ⟨_, rfl, ?_⟩
          replace hb := hb.trans (hbn.mono hb.size)
          clear hbn
          replace hS := HKS.out _ hb
          refine hK _ _ hS ?_
          clear hK
          try simp only [Act.put, zq1, zq2, zq3, zq4, zq5, zq6]
          refine tkx (i := 6) (v := ?_) hS ?_ ?_
          rotate_left
          ·rintro w' ⟨s0', s1', s2', s3', s4', s5', s6', s7'⟩
           go_simp
           try with_reducible rfl
          try simp only [Act.put, zq1, zq2, zq3, zq4, zq5, zq6]
          refine tkx (i := 7) (v := ?_) hS ?_ ?_
          rotate_left
          ·rintro w' ⟨s0', s1', s2', s3', s4', s5', s6', s7'⟩
           go_simp
           try with_reducible rfl
          try simp only [Act.put, zq1, zq2, zq3, zq4, zq5, zq6]
          refine tkx (i := 8) (v := ?_) hS ?_ ?_
          rotate_left
          ·rintro w' ⟨s0', s1', s2', s3', s4', s5', s6', s7'⟩
           go_simp
           try with_reducible rfl
          try simp only [Act.put, zq1, zq2, zq3, zq4, zq5, zq6]
          refine tkx (i := 9) (v := ?_) hS ?_ ?_
          rotate_left
          ·rintro w' ⟨s0', s1', s2', s3', s4', s5', s6', s7'⟩
           go_simp
           try with_reducible rfl
          try simp only [Act.put, zq1, zq2, zq3, zq4, zq5, zq6]
          refine tkx (i := 10) (v := ?_) hS ?_ ?_
          rotate_left
          ·rintro w' ⟨s0', s1', s2', s3', s4', s5', s6', s7'⟩
           go_simp
           try with_reducible rfl
          try simp only [Act.put, zq1, zq2, zq3, zq4, zq5, zq6]
          refine anyX_g (i := 11) (by kernel_rfl) (by decide) rfl (by rfl) ?_
          intro K hK
          try simp only [zq1, zq2, zq3]
          refine wp_enterE #[.int .i64 a0, .int .i64 a1, .slice a2 len2 cap2] Try.func15 (by kernel_rfl) (by kernel_rfl) ?_ (lawF_mach (RI.out.below hb) a0 a1 HK.out HN.out) ?_
          ·go_simp
          rintro e V3 ⟨NZ, nz, OZ, oz, rfl, hN2, hE2, l44, l45, l46, l47, hbn⟩
          rw [ET.out] at hN2
          rw [EO.out, EE.out] at hE2
          refine ⟨_, rfl, ?_⟩
          replace hb := hb.trans (hbn.mono hb.size)
          clear hbn
          replace hS := HKS.out _ hb
          refine hK _ _ hS ?_
          clear hK
          try simp only [Act.put, zq1, zq2, zq3, zq4, zq5, zq6]
          refine anyX_g (i := 12) (by kernel_rfl) (by decide) rfl (by rfl) ?_
          intro K hK
          try simp only [zq1, zq2, zq3]
          refine wp_enterE #[.agg #[.slice NC k ne, .slice OC k oe], .agg #[.slice NZ k nz, .slice OZ k oz]] Try.func22 (by kernel_rfl) (by kernel_rfl) ?_ (fsame_true (RF.out.below hb) hN2 (RE.out.below hb) hE2 HTL.out HEL.out) ?_
          ·go_simp
          rintro e V4 ⟨rfl, hbn⟩
          clear hN2 hE2
          refine ⟨_, rfl, ?_⟩
          replace hb := hb.trans (hbn.mono hb.size)
          clear hbn
          replace hS := HKS.out _ hb
          refine hK _ _ hS ?_
          clear hK
          try simp only [Act.put, zq1, zq2, zq3, zq4, zq5, zq6]
          refine tkx (i := 13) (v := ?_) hS ?_ ?_
          rotate_left
          ·rintro w' ⟨s0', s1', s2', s3', s4', s5', s6', s7'⟩
           go_simp
           try with_reducible rfl
          try simp only [Act.put, zq1, zq2, zq3, zq4, zq5, zq6]
          refine tkx (i := 14) (v := ?_) hS ?_ ?_
          rotate_left
          ·rintro w' ⟨s0', s1', s2', s3', s4', s5', s6', s7'⟩
           go_simp
           try with_reducible rfl
          try simp only [Act.put, zq1, zq2, zq3, zq4, zq5, zq6]
          refine tkx (i := 15) (v := ?_) hS ?_ ?_
          rotate_left
          ·rintro w' ⟨s0', s1', s2', s3', s4', s5', s6', s7'⟩
           go_simp
           try with_reducible rfl
          try simp only [Act.put, zq1, zq2, zq3, zq4, zq5, zq6]
          refine tkx (i := 16) (v := ?_) hS ?_ ?_
          rotate_left
          ·rintro w' ⟨s0', s1', s2', s3', s4', s5', s6', s7'⟩
           go_simp
           try with_reducible rfl
          try simp only [Act.put, zq1, zq2, zq3, zq4, zq5, zq6]
          refine anyX_g (i := 17) (by kernel_rfl) (by decide) rfl (by rfl) ?_
          intro K hK
          try simp only [zq1, zq2, zq3]
          refine wp_enterE #[.agg #[.slice NB r3 nd, .slice OB r3 od], .agg #[.slice NX r3 nx, .slice OX r3 ox]] Try.func20 (by kernel_rfl) (by kernel_rfl) ?_ (bsame_true (RQ.out.below hb) (SQ.out.below hb) (RQO.out.below hb) (SQO.out.below hb) HQL.out) ?_
          ·go_simp
          rintro e V5 ⟨rfl, hbn⟩
          refine ⟨_, rfl, ?_⟩
          replace hb := hb.trans (hbn.mono hb.size)
          clear hbn
          replace hS := HKS.out _ hb
          refine hK _ _ hS ?_
          clear hK
          try simp only [Act.put, zq1, zq2, zq3, zq4, zq5, zq6]
          refine tkx (i := 18) (v := ?_) hS ?_ ?_
          rotate_left
          ·rintro w' ⟨s0', s1', s2', s3', s4', s5', s6', s7'⟩
           go_simp
           try with_reducible rfl
          try simp only [Act.put, zq1, zq2, zq3, zq4, zq5, zq6]
          refine tkx (i := 19) (v := ?_) hS ?_ ?_
          rotate_left
          ·rintro w' ⟨s0', s1', s2', s3', s4', s5', s6', s7'⟩
           go_simp
           try with_reducible rfl
          try simp only [Act.put, zq1, zq2, zq3, zq4, zq5, zq6]
          refine tkx (i := 20) (v := ?_) hS ?_ ?_
          rotate_left
          ·rintro w' ⟨s0', s1', s2', s3', s4', s5', s6', s7'⟩
           go_simp
           try with_reducible rfl
          try simp only [Act.put, zq1, zq2, zq3, zq4, zq5, zq6]
          refine tkx (i := 21) (v := ?_) hS ?_ ?_
          rotate_left
          ·rintro w' ⟨s0', s1', s2', s3', s4', s5', s6', s7'⟩
           go_simp
           try with_reducible rfl
          try simp only [Act.put, zq1, zq2, zq3, zq4, zq5, zq6]
          refine anyX_g (i := 22) (by kernel_rfl) (by decide) rfl (by rfl) ?_
          intro K hK
          try simp only [zq1, zq2, zq3]
          refine wp_enterE #[sl gz k k, .slice GX k gx] Try.func21 (by kernel_rfl) (by kernel_rfl) ?_ (ints_true (RM.out.below hb) (SM.out.below hb)) ?_
          ·go_simp
          rintro e V6 ⟨rfl, d, rfl⟩
          refine ⟨_, rfl, ?_⟩
          replace hb := below_drewN hb d
          replace hS := HKS.out _ hb
          refine hK _ _ hS ?_
          clear hK
          try simp only [Act.put, zq1, zq2, zq3, zq4, zq5, zq6]
          refine tkx (i := 23) (v := ?_) hS ?_ ?_
          rotate_left
          ·rintro w' ⟨s0', s1', s2', s3', s4', s5', s6', s7'⟩
           go_simp
           try with_reducible rfl
          try simp only [Act.put, zq1, zq2, zq3, zq4, zq5, zq6]
          have HBZ := Lib.hid (BB.out.trans (hb.mono BB.out.size))
          clear hS hb
          refine anyX_last (by kernel_rfl) (by kernel_rfl) rfl rfl ?_
          try simp only [zq1, zq2, zq3]
          go_simp
          try apply_assumption
          go_wp2_with fail
          go_ret
          exact ⟨by simp, HBZ.out⟩
end Go.Proofs.Ytdcokkgdahbinaa
