/- What calls tell, as machines. -/
import Derived.Test.YtdcokkgdahbinaaVMiniMd
import Derived.Test.YtdcokkgdahbinaaVMiniMb
import Derived.Test.YtdcokkgdahbinaaVMiniP
set_option linter.unusedVariables false
set_option linter.unusedSimpArgs false
namespace Go.Proofs.Ytdcokkgdahbinaa
open Go Go.RowKit Go.Proofs
structure MachF {α : Type} (T : List (List Nat)) (k : Nat) (g : Nat -> α) (f : Nat -> Nat) (r : Nat) : Prop where
 rect : RectN T k
 kern : ∀ x y, x < T.length -> y < T.length -> (f x = f y ↔ AlikeN T k g x y)
 len : (repN T (EF f)).length = r
section
variable {α : Type} {T : List (List Nat)} {k : Nat} {g : Nat -> α} {f : Nat -> Nat} {r : Nat}
theorem MachF.step (h : MachF T k g f r) : StepN T k (EF f) := EF.step h.rect h.kern
theorem MachF.le (h : MachF T k g f r) : r <= T.length := by rw [<- h.len]; exact rep_len h.rect (EF.eqv f)
theorem MachF.pos (h : MachF T k g f r) : 0 < r := by rw [<- h.len]; exact rep_pos
theorem MachF.qlen (h : MachF T k g f r) : (quoN T (EF f)).length = r := by rw [quo_len, h.len]
theorem MachF.quo (h : MachF T k g f r) : RectN (quoN T (EF f)) k := quo_rect h.rect (EF.eqv f) h.step
def quoG (T : List (List Nat)) (f : Nat -> Nat) (g : Nat -> α) (x : Nat) : α := g ((repN T (EF f)).getD x 0)
theorem quoG_of (h : MachF T k g f r) {s : Nat} (hs : s ∈ metN T) : quoG T f g (ofN T (EF f) s) = g s := by
 obtain ⟨u, hu, e, hm⟩ := rep_of h.rect (EF.eqv f) h.step hs
 unfold quoG
 rw [List.getD_eq_getElem?_getD, hu]
 exact ((h.kern u s (met_lt h.rect hm) (met_lt h.rect hs)).1 (by simpa [EF] using e)).out
theorem MachF.apart (h : MachF T k g f r) {x y : Nat} (hx : x < r) (hy : y < r) (hne : x ≠ y) : ¬ AlikeN (quoN T (EF f)) k (quoG T f g) x y := by
 intro q
 have hE := EF.eqv f
 have hx' : x < (repN T (EF f)).length := by rw [h.len]; exact hx
 have hy' : y < (repN T (EF f)).length := by rw [h.len]; exact hy
 have gu := List.getElem?_eq_getElem hx'
 have gv := List.getElem?_eq_getElem hy'
 have mu := rep_met h.rect hE h.step (List.getElem_mem hx')
 have mv := rep_met h.rect hE h.step (List.getElem_mem hy')
 generalize (repN T (EF f))[x] = u at *
 generalize (repN T (EF f))[y] = v at *
 have hal : AlikeN T k g u v := fun w hw => by
  have := q w hw
  rw [<- of_rep hE gu, <- of_rep hE gv, quo_run h.rect hE h.step w u mu hw, quo_run h.rect hE h.step w v mv hw, quoG_of h (run_met h.rect w u mu hw), quoG_of h (run_met h.rect w v mv hw)] at this
  exact this
 have := rep_apart hE gu gv hne
 have e : f u = f v := (h.kern u v (met_lt h.rect mu) (met_lt h.rect mv)).2 hal
 simp [EF, e] at this
theorem MachF.can (h : MachF T k g f r) {f2 : Nat -> Nat} {r2 : Nat} (h2 : MachF (quoN T (EF f)) k (quoG T f g) f2 r2) : CanN (quoN T (EF f)) k r (EF f2) (nextN T (EF f)) := by
 have hE := EF.eqv f
 have hrep : ∀ i, i < r -> ∃ u, (repN T (EF f))[i]? = some u := fun i hi => ⟨_, List.getElem?_eq_getElem (by rw [h.len]; exact hi)⟩
 refine ⟨h.qlen, h.quo, fun x y hx hy => ?_, by rw [next_zero]; rfl, fun i hi => ?_, fun i a hi ha => ?_, fun i hi => ?_, ?_⟩
 ·constructor
  ·intro e
   apply Classical.byContradiction
   intro hne
   exact h.apart hx hy hne ((h2.kern x y (by rw [h.qlen]; exact hx) (by rw [h.qlen]; exact hy)).1 (by simpa [EF] using e))
  ·rintro rfl; simp [EF]
 ·obtain ⟨u, hu⟩ := hrep i hi; exact next_end h.rect hE hu
 ·obtain ⟨u, hu⟩ := hrep i hi; exact next_step h.rect hE hu ha
 ·obtain ⟨u, hu⟩ := hrep i hi; exact next_ahead h.rect hE hu
 ·have := next_all h.rect hE
  rw [h.len] at this; exact this
end
theorem quoG_ex {α : Type} {T : List (List Nat)} {k r : Nat} {g : Nat -> α} {f : Nat -> Nat} (h : MachF T k g f r) {x : Nat} (hx : x < r) {P : Nat -> Prop} (hP : ∀ x, x < T.length -> P x) : P ((repN T (EF f)).getD x 0) := by
 have hx' : x < (repN T (EF f)).length := by rw [h.len]; exact hx
 refine hP _ ?_
 rw [List.getD_eq_getElem?_getD, List.getElem?_eq_getElem hx']
 exact bfs_lt h.rect _ _ (List.getElem_mem hx')
def quoE (T : List (List Nat)) (f : Nat -> Nat) (E : List (List V3)) : List (List V3) := (repN T (EF f)).map fun x => E.getD x []
theorem quoE_len (T : List (List Nat)) (f : Nat -> Nat) (E : List (List V3)) : (quoE T f E).length = (repN T (EF f)).length := by simp [quoE]
theorem quoE_at (T : List (List Nat)) (f : Nat -> Nat) (E : List (List V3)) {j : Nat} (h : j < (repN T (EF f)).length) : (quoE T f E).getD j [] = quoG T f (fun x => E.getD x []) j := by
 simp [quoE, quoG, List.getD_eq_getElem?_getD, List.getElem?_eq_getElem h]
theorem quoO_g (T : List (List Nat)) (f : Nat -> Nat) (O : List Nat) {j : Nat} (h : j < (repN T (EF f)).length) : (quoO T f O).getD j 0 = quoG T f (fun x => O.getD x 0) j := by
 simp [quoO, quoG, List.getD_eq_getElem?_getD, List.getElem?_eq_getElem h]
theorem AlikeN.ext {α : Type} {T : List (List Nat)} {k : Nat} {g g' : Nat -> α} (hT : RectN T k) (h : ∀ x, x < T.length -> g x = g' x) {x y : Nat} (hx : x < T.length) (hy : y < T.length) : AlikeN T k g x y ↔ AlikeN T k g' x y :=
 AlikeN.congr hT (fun a b ha hb => by rw [h a ha, h b hb]) hx hy
theorem alike_cast {T : List (List Nat)} {k : Nat} {O : List Nat} (hT : RectN T k) {x y : Nat} (hx : x < T.length) (hy : y < T.length) : AlikeN T k (fun x => ((O.getD x 0 : Nat) : Int)) x y ↔ AlikeN T k (fun x => O.getD x 0) x y :=
 AlikeN.congr hT (fun a b _ _ => by constructor <;> intro h <;> omega) hx hy
theorem MachF.ext {α : Type} {T : List (List Nat)} {k r : Nat} {g g' : Nat -> α} {f : Nat -> Nat} (h : MachF T k g f r) (e : ∀ x, x < T.length -> g x = g' x) : MachF T k g' f r :=
 ⟨h.rect, fun x y hx hy => (h.kern x y hx hy).trans (AlikeN.ext h.rect e hx hy), h.len⟩
theorem again_of {α : Type} {T : List (List Nat)} {k r r2 : Nat} {g g2 : Nat -> α} {f f2 : Nat -> Nat} (h : MachF T k g f r) (h2 : MachF (quoN T (EF f)) k g2 f2 r2) (e : ∀ x, x < r -> g2 x = quoG T f g x) :
  r2 = r /\ quoN (quoN T (EF f)) (EF f2) = quoN T (EF f) /\ repN (quoN T (EF f)) (EF f2) = List.range r /\ ∀ s, s < r -> nameN (quoN T (EF f)) (EF f2) s = (s : Nat) := by
  have hc := h.can (h2.ext (fun x hx => e x (by rw [h.qlen] at hx; exact hx)))
  refine ⟨?_, hc.quo (EF.eqv f2), hc.rep, fun s hs => hc.name (EF.eqv f2) hs⟩
  rw [<- h2.len, hc.rep, List.length_range]
theorem range_getD {α : Type} (l : List α) (d : α) {r : Nat} (h : l.length = r) : (List.range r).map (fun x => l.getD x d) = l := by
 apply List.ext_getElem
 ·simp [h]
 ·intro i h1 h2
  simp [List.getD, List.getElem?_eq_getElem h2]
theorem rowZ_eq {n : Nat} {f g : Nat -> Int} (h : ∀ s, s < n -> f s = g s) : rowZ n f = rowZ n g := by
 unfold rowZ
 exact List.map_congr_left fun i hi => h i (List.mem_range.1 hi)
theorem quoO_le {T : List (List Nat)} {f : Nat -> Nat} {O : List Nat} (h : ∀ x, O.getD x 0 <= 2) (x : Nat) : (quoO T f O).getD x 0 <= 9223372036854775807 := by
 rcases Nat.lt_or_ge x (repN T (EF f)).length with q | q
 ·rw [quoO_g T f O q]
  have := h ((repN T (EF f)).getD x 0)
  unfold quoG
  show O.getD _ 0 <= _
  omega
 ·rw [List.getD_eq_getElem?_getD, List.getElem?_eq_none (by rw [quoO_len]; exact q)]
  decide
theorem back_mach {w : World} {NA OA : Option Addr} {nc oc n k : Nat} {T : List (List Nat)} {outs : List Nat} (h : NextR w (.slice NA n nc) T) (hl : T.length = n) (hT : RectN T k) (ho : ReadsI w (.slice OA n oc) n (intsN outs)) (hn : n <= 1000) (hk : k <= 1000) (hob : ∀ x, outs.getD x 0 <= 9223372036854775807) :
  Calls Try.prog 16 #[.agg #[.slice NA n nc, .slice OA n oc]] w fun e w' => ∃ NB nd OB od gn f r, e = .returned (.tuple #[.agg #[.slice NB r nd, .slice OB r od], sl gn n n]) /\ MachF T k (fun x => outs.getD x 0) f r /\
   NextR w' (.slice NB r nd) (quoN T (EF f)) /\ ReadsI w' (.slice OB r od) r (intsN (quoO T f outs)) /\ ReadsI w' (sl gn n n) n (rowZ n (nameN T (EF f))) /\ r <= nd /\ nd <= 9223372036854775807 /\ r <= od /\ od <= 9223372036854775807 /\ Below w.heap.size w w' := by
  refine (back_any h hl hT ho hn hk hob).mono ?_
  rintro e w' ⟨vn, vo, gn, f, rfl, hf, hn', ho', hm, hb⟩
  subst hl
  have hM : MachF T k (fun x => outs.getD x 0) f (repN T (EF f)).length := ⟨hT, fun x y hx hy => (hf x y hx hy).trans (alike_cast hT hx hy), rfl⟩
  have hq := quo_next hT hM.step hn'
  have hqo := ho'.readsI
  rw [quoO_is] at hqo
  obtain ⟨NB, nd, e, l1, l2⟩ := hq.form
  rw [hM.qlen] at e l1
  subst e
  obtain ⟨OB, od, rfl, l3, l4, -⟩ := hqo.form
  exact ⟨NB, nd, OB, od, gn, f, _, rfl, hM, hq, hqo, hm.readsI, l1, l2, l3, l4, hb⟩
theorem xssV_at (E : List (List V3)) (l : List Nat) {i : Nat} (h : i < l.length) : (xssV E l).getD i (0, []) = (((l.map fun x => E.getD x []).getD i []).length, ((l.map fun x => E.getD x []).getD i []).flatMap encV) := by
 simp [xssV, List.getD_eq_getElem?_getD, List.getElem?_eq_getElem h]
theorem fwd_mach {w : World} {NA OA : Option Addr} {nc oc n k : Nat} {q : Nat} {T : List (List Nat)} {E : List (List V3)} (h : NextR w (.slice NA n nc) T) (hl : T.length = n) (hT : RectN T k) (ho : EmitR w (.slice OA n oc) E) (hel : E.length = n) (hq : ∀ i, i < n -> (E.getD i []).length = q) (hq9 : q <= 1000) (hin : ∀ i, i < n -> ∀ u ∈ E.getD i [], ∀ c, In64 (atV u c)) (hn : n <= 1000) (hk : k <= 1000) :
  Calls Try.prog 18 #[.agg #[.slice NA n nc, .slice OA n oc]] w fun e w' => ∃ NB nd OB od gn f r, e = .returned (.tuple #[.agg #[.slice NB r nd, .slice OB r od], sl gn n n]) /\ MachF T k (fun x => E.getD x []) f r /\
   NextR w' (.slice NB r nd) (quoN T (EF f)) /\ EmitR w' (.slice OB r od) (quoE T f E) /\ ReadsI w' (sl gn n n) n (rowZ n (nameN T (EF f))) /\ r <= nd /\ nd <= 9223372036854775807 /\ r <= od /\ od <= 9223372036854775807 /\ Below w.heap.size w w' := by
  refine (fwd_any h hl hT ho hel hq hq9 hin hn hk).mono ?_
  rintro e w' ⟨vn, vo, gn, f, rfl, hf, hn', ho', hm, hb⟩
  subst hl
  have hM : MachF T k (fun x => E.getD x []) f (repN T (EF f)).length := ⟨hT, fun x y hx hy => (hf x y hx hy).trans (alike_key hT rfl hq hin hx hy), rfl⟩
  have hq' := quo_next hT hM.step hn'
  have hqe : EmitR w' vo (quoE T f E) := ho'.emitR (quoE_len _ _ _) (fun i hi => xssV_at E _ hi)
  obtain ⟨NB, nd, e, l1, l2⟩ := hq'.form
  rw [hM.qlen] at e l1
  subst e
  obtain ⟨OB, od, e, l3, l4⟩ := hqe.form
  rw [quoE_len] at e l3
  subst e
  exact ⟨NB, nd, OB, od, gn, f, _, rfl, hM, hq', hqe, hm.readsI, l1, l2, l3, l4, hb⟩
theorem lawB_mach {w : World} {NSA : Option Addr} {nl nsc k n : Nat} {ns : List Int} (hv : ReadsI w (.slice NSA nl nsc) nl ns) (size letters : Int) (hk : (k : Int) = 1 + size % 9) (hn : (n : Int) = 1 + letters % 3) :
  Calls Try.prog 14 #[.int .i64 size, .int .i64 letters, .slice NSA nl nsc] w fun e w' => ∃ NA nc OA oc, e = .returned (.agg #[.slice NA k nc, .slice OA k oc]) /\ NextR w' (.slice NA k nc) (lawT ns k n) /\ ReadsI w' (.slice OA k oc) k (intsN (lawO ns k n)) /\ k <= nc /\ nc <= 9223372036854775807 /\ k <= oc /\ oc <= 9223372036854775807 /\ Below w.heap.size w w' := by
  refine (lawBack_any hv size letters hk hn).mono ?_
  rintro e w2 ⟨vn, vo, rfl, hn', ho, hb⟩
  have hN : NextR w2 vn (lawT ns k n) := hn'.nextR (lawT_len _ _ _) (fun i hi => xssT_at _ hi)
  obtain ⟨NA, nc, e, l1, l2⟩ := hN.form
  rw [lawT_len] at e l1
  subst e
  have hO := ho.readsI
  obtain ⟨OA, oc, rfl, l3, l4, -⟩ := hO.form
  exact ⟨NA, nc, OA, oc, rfl, hN, hO, l1, l2, l3, l4, hb⟩
theorem lawF_mach {w : World} {NSA : Option Addr} {nl nsc k n : Nat} {ns : List Int} (hv : ReadsI w (.slice NSA nl nsc) nl ns) (size letters : Int) (hk : (k : Int) = 1 + size % 9) (hn : (n : Int) = 1 + letters % 3) :
  Calls Try.prog 15 #[.int .i64 size, .int .i64 letters, .slice NSA nl nsc] w fun e w' => ∃ NA nc OA oc, e = .returned (.agg #[.slice NA k nc, .slice OA k oc]) /\ NextR w' (.slice NA k nc) (lawT ns k n) /\ EmitR w' (.slice OA k oc) (lawEs (lawO ns k n)) /\ k <= nc /\ nc <= 9223372036854775807 /\ k <= oc /\ oc <= 9223372036854775807 /\ Below w.heap.size w w' := by
  refine (lawFwd_any hv size letters hk hn).mono ?_
  rintro e w2 ⟨vn, vo, rfl, hn', ho, hb⟩
  have hN : NextR w2 vn (lawT ns k n) := hn'.nextR (lawT_len _ _ _) (fun i hi => xssT_at _ hi)
  obtain ⟨NA, nc, e, l1, l2⟩ := hN.form
  rw [lawT_len] at e l1
  subst e
  have hl : (lawEs (lawO ns k n)).length = k := by rw [lawEs_len, lawO_len]
  have hO : EmitR w2 vo (lawEs (lawO ns k n)) := ho.emitR hl (fun i hi => xssE_at _ hi)
  obtain ⟨OA, oc, e, l3, l4⟩ := hO.form
  rw [hl] at e l3
  subst e
  exact ⟨NA, nc, OA, oc, rfl, hN, hO, l1, l2, l3, l4, hb⟩
theorem lawE_two {O : List Nat} {k i : Nat} (hl : O.length = k) (h : i < k) : ((lawEs O).getD i []).length = 2 := by rw [lawEs_at (by omega)]; rfl
theorem lawE_in {O : List Nat} {k i : Nat} (hl : O.length = k) (h2 : ∀ x, O.getD x 0 <= 2) (h : i < k) : ∀ u ∈ (lawEs O).getD i [], ∀ c, In64 (atV u c) := by
 rw [lawEs_at (by omega)]
 have hy := h2 i
 generalize O.getD i 0 = y at *
 intro u hu c
 have : u = (((y % 2 : Nat) : Int), 5, 1152921504606846976) \/ u = (((y / 2 : Nat) : Int), 0, (y : Int)) := by simpa [lawE] using hu
 rcases this with rfl | rfl
 all_goals
  unfold In64 atV
  split
  ·simp only; omega
  ·split <;> simp only <;> omega
end Go.Proofs.Ytdcokkgdahbinaa
